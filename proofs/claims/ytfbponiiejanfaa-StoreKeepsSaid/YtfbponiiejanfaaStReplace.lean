/-
  medium.replace: walked.
-/
import Derived.Test.YtfbponiiejanfaaStLay
namespace Go.Proofs.Ytfbponiiejanfaa
open Go.RowKit Go.Shelf
attribute [local go_sem] Oper.semAt_some
set_option linter.unusedVariables false
set_option linter.unusedSimpArgs false

/-- Nothing is taken of what is no record: no bytes, or a part of a record. -/
theorem mReplaceNo (B : Nat) (l : List UInt8) (w : World) (g c : Nat) (hb : Holds w g 0 l) (hll : l.length ≤ 5000) (hno : l ≠ [] → wholeF (txt l) = false) :
    Calls Try.prog 21 #[.pointer (some ⟨B, 0, none⟩), .slice (some ⟨g, 0, none⟩) l.length c] w fun e w' => e = .returned (.tuple #[]) ∧ Below w.heap.size w w' := by
  have hrt := run_text w g 0 c l hb
  have hz := txt_size l
  obtain ⟨n, hn⟩ : ∃ n, l.length = n := ⟨_, rfl⟩
  rw [hn] at hrt hz hll ⊢
  clear hn
  by_cases h0 : l = []
  · subst h0
    have he : (txt []).toList.isEmpty = true := by rw [Lib.toList_data, txt_toList]; rfl
    go_enter Try.func21, Try.ntmps21
    go_wp2
    first | go_end0 | refine bodyPost_ret (results_none rfl _ _ _) rfl ?_
    exact ⟨rfl, Below.refl _ _⟩
  · have hw := fun W => jWhole (txt l) (by omega) W
    rw [hno h0] at hw
    have HW := Lib.hid hw
    clear hw hno
    have he : (txt l).toList.isEmpty = false := by rw [Lib.toList_data, txt_toList]; simp [h0]
    go_enter Try.func21, Try.ntmps21
    go_wp2_with (go_at_call 26; refine (HW.out _).mono ?_; rintro e w1 ⟨rfl, hb1⟩)
    first | go_end0 | refine bodyPost_ret (results_none rfl _ _ _) rfl ?_
    exact ⟨rfl, hb1⟩
theorem whole_rec (d : List UInt8) (hd : d.length ≤ 4096) : wholeF (txt (J.rec d)) = true := by
  obtain ⟨h1, h2⟩ := J.read_rec d [] hd
  rw [List.append_nil, J.read_nil.2] at h2
  rw [wholeF, txt_toList, h2, txt_size, J.rec_length]
  simp
/-- A snapshot in the place of all. -/
def St.snapped (S : St) (d : List UInt8) : St := { S with snap := some d, ds := [], torn := none }
theorem snapped_held (S : St) (d : List UInt8) : (S.snapped d).held = d.length + 9 := by
  simp [St.held, St.snapped, St.mark, St.pieces, St.sum, J.rec_length]
theorem replace_end {S : St} {B : Nat} {v : Value} {d : List UInt8} {w : World} (h : Is S B v w) (hd : d.length ≤ 4096) (hc : d.length + 9 ≤ S.cap) (n : Nat) (hn : n = (J.rec d).length) :
    Turns (S.snapped d) B v w (((w.setCell ⟨B, 0, none⟩ (strV (J.rec d))).setCell ⟨B, 1, none⟩ (.slice none 0 0)).setCell ⟨B, 2, none⟩ (.int .i64 (n : Int))) := by
  have hr := row_set (row_set (row_set h.row 0 (strV (J.rec d))) 1 (.slice none 0 0)) 2 (.int .i64 (n : Int))
  have hh := snapped_held S d
  refine ⟨.slice none 0 0, ⟨?_, World.ownsRow_nil _ _ _ _, ⟨(fun x hx => by cases hx), (fun x hx => by cases hx; exact hd), (fun t ht => by cases ht), (by rw [hh]; exact hc), h.ok.most⟩⟩, (fun g hg => by cases hg), (((Still.refl B _ w).setCell ⟨B, 0, none⟩ _ rfl).setCell ⟨B, 1, none⟩ _ rfl).setCell ⟨B, 2, none⟩ _ rfl⟩
  rw [hr]
  have e : (((cells S v).setIfInBounds 0 (strV (J.rec d))).setIfInBounds 1 (.slice none 0 0)).setIfInBounds 2 (.int .i64 (n : Int)) = cells (S.snapped d) (.slice none 0 0) := by
    rw [cells, cells, hh, hn, J.rec_length]
    simp [St.snapped, St.mark]
  rw [e]
set_option maxRecDepth 100000 in
/-- A record takes the place of all. -/
theorem mReplace (S : St) (B : Nat) (v : Value) (d : List UInt8) (w : World) (h : Is S B v w) (hd : d.length ≤ 4096) (hcap : d.length + 9 ≤ S.cap) (g c : Nat) (hb : Holds w g 0 (J.rec d)) :
    Calls Try.prog 21 #[.pointer (some ⟨B, 0, none⟩), .slice (some ⟨g, 0, none⟩) (J.rec d).length c] w fun e w' => e = .returned (.tuple #[]) ∧ Turns (S.snapped d) B v w w' := by
  have hrt := run_text w g 0 c _ hb
  have hz := txt_size (J.rec d)
  have hw := fun W => jWhole (txt (J.rec d)) (by rw [hz, J.rec_length]; omega) W
  have he : (txt (J.rec d)).toList.isEmpty = false := by rw [Lib.toList_data, txt_toList, J.rec]; simp [CrcM.withSum, J.bare]
  rw [whole_rec d hd] at hw
  have HW := Lib.hid hw
  have HE := Lib.hid (fun (W : World) (hI : Is S B v W) (n : Nat) hn => replace_end hI hd hcap n hn)
  clear hw
  obtain ⟨n, hn⟩ : ∃ n, (J.rec d).length = n := ⟨_, rfl⟩
  rw [hn] at hrt hz ⊢
  have HN := Lib.hid hn.symm
  clear hn hb
  generalize J.rec d = l at *
  go_enter Try.func21, Try.ntmps21
  go_wp2_with (go_at_call 26; refine (HW.out _).mono ?_; rintro e w1 ⟨rfl, hb1⟩; have hI := h.below hb1; have hk0 := hI.cell 0 _ rfl; have hk1 := hI.cell 1 _ rfl; have hk2 := hI.cell 2 _ rfl; have hf0 := hI.thawed 0; have hf1 := hI.thawed 1; have hf2 := hI.thawed 2; have hend := HE.out w1 hI n HN.out)
  first | go_end0 | refine bodyPost_ret (results_none rfl _ _ _) rfl ?_
  exact ⟨rfl, Turns.trans (Still.of_below hb1) (fun g hg => .inl hg) hend⟩
end Go.Proofs.Ytfbponiiejanfaa
