/-
  Records' bytes of a list of texts, as the laws of layer 3 make them: walked.
-/
import Derived.Test.YtlcenfgnmmkcpaaJLaws1
namespace Go.Proofs.Ytlcenfgnmmkcpaa
open Go.RowKit Go.Shelf
attribute [local go_sem] Oper.semAt_some
set_option linter.unusedVariables false
set_option linter.unusedSimpArgs false

/-- A list of texts that was handed in. -/
def TextsA (w : World) (v : Value) (ss : List ByteArray) : Prop :=
  (v = .slice none 0 0 ∧ ss = []) ∨ ∃ (a : Addr) (c : Nat), v = .slice (some a) ss.length c ∧ ∀ j (h : j < ss.length), w.cell? (a.add j) = some (.string ss[j])
theorem add_block (a : Addr) (j : Nat) : (a.add j).block = a.block := by
  simp only [Addr.add]
  split <;> rfl
theorem cell_block {w : World} {a : Addr} {j : Nat} {v : Value} (h : w.cell? (a.add j) = some v) : a.block < w.heap.size := by
  have := World.block_lt_of_cell? w (a.add j) h
  rwa [add_block] at this
theorem TextsA.below {w w' : World} {v : Value} {ss : List ByteArray} {n : Nat} (h : TextsA w v ss) (hb : Below n w w') (hn : w.heap.size ≤ n) : TextsA w' v ss := by
  rcases h with h | ⟨a, c, rfl, hx⟩
  · exact .inl h
  · exact .inr ⟨a, c, rfl, fun j hj => (hb.cell (p := a.add j) (by rw [add_block]; have := cell_block (hx j hj); omega)).trans (hx j hj)⟩
/-- A text's first hundred bytes. -/
def hun (s : ByteArray) : ByteArray := s.extract 0 (min (s.size : Int) 100).toNat
theorem hun_size (s : ByteArray) : (hun s).size ≤ 100 := by rw [hun, ByteArray.size_extract]; omega
/-- The first forty texts' first hundred bytes. -/
def datas (ss : List ByteArray) : List (List UInt8) := (ss.take 40).map fun s => (hun s).data.toList
theorem datas_length (ss : List ByteArray) : (datas ss).length = min 40 ss.length := by simp [datas]
theorem datas_get (ss : List ByteArray) (k : Nat) (hk : k < ss.length) (h40 : k < 40) : ∃ h : k < (datas ss).length, (datas ss)[k] = (hun ss[k]).data.toList := by
  have h : k < (datas ss).length := by rw [datas_length]; omega
  exact ⟨h, by simp [datas]⟩
theorem datas_small (ss : List ByteArray) : ∀ d ∈ datas ss, d.length ≤ 100 := by
  intro d hd
  obtain ⟨s, _, rfl⟩ := List.mem_map.1 hd
  have := hun_size s
  simpa using this
theorem datas_ok (ss : List ByteArray) : ∀ d ∈ datas ss, d.length ≤ 4096 := fun d hd => by have := datas_small ss d hd; omega
theorem recs_small (ds : List (List UInt8)) (h : ∀ d ∈ ds, d.length ≤ 100) : (J.recs ds).length ≤ 109 * ds.length := by
  induction ds with
  | nil => exact Nat.le_refl _
  | cons d t ih =>
    have h1 := h d (by simp)
    have h2 := ih (fun x hx => h x (List.mem_cons_of_mem _ hx))
    rw [J.recs_cons, List.length_append, J.rec_length, List.length_cons]
    omega
theorem recs_datas (ss : List ByteArray) : (J.recs (datas ss)).length ≤ 4360 := by
  have h1 := recs_small _ (datas_small ss)
  have h2 := datas_length ss
  omega
theorem take_small (ss : List ByteArray) (k : Nat) : (J.recs ((datas ss).take k)).length ≤ 4360 := by
  have h1 := recs_small ((datas ss).take k) (fun d hd => datas_small ss d (List.mem_of_mem_take hd))
  have h2 := datas_length ss
  have h3 : ((datas ss).take k).length ≤ 40 := by rw [List.length_take]; omega
  omega
theorem recF_hun (s : ByteArray) : recF (hun s) = (txt (J.rec (hun s).data.toList), 0) := by
  have := hun_size s
  rw [recF, if_pos (by omega)]
set_option maxRecDepth 100000 in
set_option maxHeartbeats 4000000 in
theorem lawBytes (v : Value) (ss : List ByteArray) (w : World) (hT : TextsA w v ss) (hss : ss.length ≤ maxLen) : Calls Try.prog 23 #[v] w fun e w' => e = .returned (.string (txt (J.recs (datas ss)))) ∧ Below w.heap.size w w' := by
  have hdl := datas_length ss
  rcases hT with ⟨rfl, rfl⟩ | ⟨a, c, rfl, hx⟩
  · go_enter Try.func23, Try.ntmps23
    go_wp2
    go_loopw [3, 4] (fun s i W => s = .string ⟨#[]⟩ ∧ i = .int .i64 0 ∧ W = w) (fun _ _ _ => 0)
    case atStart => exact ⟨rfl, rfl, rfl⟩
    case round =>
      obtain ⟨rfl, rfl, rfl⟩ := hrel
      go_wp2
      go_ret
      exact ⟨rfl, Below.refl _ _⟩
  · obtain ⟨n, hn⟩ : ∃ n, ss.length = n := ⟨_, rfl⟩
    rw [hn]
    rw [hn] at hss hdl
    unfold maxLen at hss
    have HN := Lib.hid hn
    have HDL := Lib.hid hdl
    clear hn hdl
    go_enter Try.func23, Try.ntmps23
    go_wp2
    go_loopw [3, 4] (fun s i W => ∃ k : Nat, k ≤ 40 ∧ k ≤ n ∧ s = .string (txt (J.recs ((datas ss).take k))) ∧ i = .int .i64 k ∧ Below w.heap.size w W) (fun _ i _ => 40 - (intOf i).toNat)
    case atStart => exact ⟨0, by omega, Nat.zero_le _, rfl, rfl, Below.refl _ _⟩
    case round =>
      obtain ⟨k, hk40, hkn, rfl, rfl, hB⟩ := hrel
      by_cases hlt : k < n
      · by_cases h40 : k < 40
        · have hks : k < ss.length := by rw [HN.out]; exact hlt
          obtain ⟨hkd, hget⟩ := datas_get ss k hks h40
          have ha := cell_block (hx k hks)
          have hcell : wr.cell? (a.add k) = some (.string ss[k]) := (hB.cell (p := a.add k) (by rw [add_block]; exact ha)).trans (hx k hks)
          have hrecs : txt (J.recs ((datas ss).take (k + 1))) = txt (J.recs ((datas ss).take k)) ++ txt (J.rec (hun ss[k]).data.toList) := by
            rw [List.take_succ_eq_append_getElem hkd, hget, J.recs_snoc]
            rw [← txt_data (txt _ ++ txt _)]
            simp only [ByteArray.data_append, Array.toList_append, txt_toList]
          have hz1 := take_small ss k
          have hz2 := hun_size ss[k]
          have hz3 : (txt (J.rec (hun ss[k]).data.toList)).size ≤ 109 := by rw [txt_size, J.rec_length, Array.length_toList]; show (hun ss[k]).size + 9 ≤ 109; omega
          have hz4 : (txt (J.recs ((datas ss).take k))).size ≤ 4360 := by rw [txt_size]; exact hz1
          have hrec := fun W => refRecord (hun ss[k]) (by omega) W
          rw [recF_hun] at hrec
          have hhun : ss[k].extract 0 (min (ss[k].size : Int) 100).toNat = hun ss[k] := rfl
          have HRS := Lib.hid hrecs
          clear hrecs hget hz1 hz2 hx
          generalize txt (J.recs ((datas ss).take k)) = A at *
          generalize txt (J.rec (hun ss[k]).data.toList) = R at *
          generalize hun ss[k] = H at *
          generalize ss[k] = x at *
          have HR := Lib.hid hrec
          have hl1 : ¬ 9223372036854775807 < A.size + R.size := by omega
          clear hrec hz3 hz4
          have hm1 : min (x.size : Int) 100 ≤ (x.size : Int) := by omega
          have hm0 : (0 : Int) ≤ min (x.size : Int) 100 := by omega
          have hmn : decide (min (x.size : Int) 100 < 0) = false := by rw [decide_eq_false_iff_not]; omega
          have hmx : decide ((x.size : Int) < min (x.size : Int) 100) = false := by rw [decide_eq_false_iff_not]; omega
          have hbk : (a.add k).block < wr.heap.size := by rw [add_block]; have := hB.size; omega
          go_wp2
          go_region_held3 (fun W => W.cell? (a.add k) = some (.string x)) (first | exact hcell | exact (hbq.cell hbk).trans hcell | go_keep) ((go_at_call 13; refine (HR.out _).mono ?_; rintro e wq ⟨rfl, hbq⟩; replace hB := hB.drew.trans (hbq.mono hB.size)))
          all_goals (go_wp2; go_roundw)
          case rel => exact ⟨k + 1, by omega, by omega, by rw [HRS.out], by go_num, hB⟩
          case measure => simp [intOf]; omega
        · have e : k = 40 := by omega
          have hfin : (datas ss).take k = datas ss := List.take_of_length_le (by rw [HDL.out]; omega)
          rw [hfin]
          have hd40 : decide ((k : Int) < 40) = false := by rw [decide_eq_false_iff_not]; omega
          clear hfin hx e
          go_wp2
          go_ret
          exact ⟨rfl, hB⟩
      · have hfin : (datas ss).take k = datas ss := List.take_of_length_le (by rw [HDL.out]; omega)
        rw [hfin]
        clear hfin hx
        go_wp2
        go_ret
        exact ⟨rfl, hB⟩
end Go.Proofs.Ytlcenfgnmmkcpaa
