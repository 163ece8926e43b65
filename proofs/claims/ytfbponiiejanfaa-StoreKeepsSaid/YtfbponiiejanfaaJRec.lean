/-
  Mathematics of journals: what is read of records, of records and others behind them, of a beginning of records.
-/
import Derived.Test.YtfbponiiejanfaaJReadMath
namespace Go.Proofs.Ytfbponiiejanfaa
open Go.RowKit Go.Shelf
set_option linter.unusedVariables false
set_option linter.unusedSimpArgs false
namespace J
theorem rec_form (d t : List UInt8) : rec d ++ t = 52 :: (CrcM.put (BitVec.ofNat 32 d.length) ++ (d ++ (CrcM.put (CrcM.sum (bare d)) ++ t))) := by
  simp only [rec, CrcM.withSum, bare, List.cons_append, List.append_assoc]
theorem size_of_head (m : UInt8) (n : BitVec 32) (r : List UInt8) : size (m :: (CrcM.put n ++ r)) = n.toNat := by
  have : ((m :: (CrcM.put n ++ r)).drop 1).take 4 = CrcM.put n := by
    show (CrcM.put n ++ r).take 4 = _
    rw [← CrcM.put_length n, List.take_left]
  rw [size, this, CrcM.get_put]
theorem size_rec (d t : List UInt8) (h : d.length ≤ 4096) : size (rec d ++ t) = d.length := by
  rw [rec_form, size_of_head, BitVec.toNat_ofNat]; omega
theorem told_rec (d t : List UInt8) (h : d.length ≤ 4096) : told (rec d ++ t) = true := by
  have hs := size_rec d t h
  have hl : (rec d ++ t).length = d.length + 9 + t.length := by rw [List.length_append, rec_length]
  rw [told, hs, hl, decide_eq_true (by omega : 9 ≤ d.length + 9 + t.length), decide_eq_true h, decide_eq_true (by omega : d.length + 9 ≤ d.length + 9 + t.length), rec_form]
  rfl
theorem take_rec (d t : List UInt8) : (rec d ++ t).take (d.length + 9) = rec d := by rw [← rec_length, List.take_left]
theorem drop_rec (d t : List UInt8) : (rec d ++ t).drop (d.length + 9) = t := by rw [← rec_length, List.drop_left]
theorem data_rec (d : List UInt8) : data (rec d) = d := by
  have h : (rec d).take ((rec d).length - 4) = bare d := CrcM.seal_take (bare d)
  rw [data, h, bare]
  show ((CrcM.put (BitVec.ofNat 32 d.length) ++ d).drop 4) = d
  rw [← CrcM.put_length (BitVec.ofNat 32 d.length), List.drop_left]
theorem read_rec (d t : List UInt8) (h : d.length ≤ 4096) : read (rec d ++ t) = d :: read t ∧ end' (rec d ++ t) = d.length + 9 + end' t := by
  have hs := size_rec d t h
  have hy := read_yes (told_rec d t h) (by rw [hs, take_rec]; exact CrcM.opened_seal _)
  rw [hs, take_rec, drop_rec, data_rec] at hy
  exact hy
theorem read_nil : read [] = [] ∧ end' [] = 0 := read_no (fun h => by have := told_length h.1; simp at this)
/-- Records, one behind the other. -/
def recs (ds : List (List UInt8)) : List UInt8 := ds.flatMap rec
theorem recs_nil : recs [] = [] := rfl
theorem recs_cons (d : List UInt8) (ds : List (List UInt8)) : recs (d :: ds) = rec d ++ recs ds := rfl
theorem recs_snoc (ds : List (List UInt8)) (d : List UInt8) : recs (ds ++ [d]) = recs ds ++ rec d := by
  simp [recs]
theorem read_recs (ds : List (List UInt8)) (t : List UInt8) (h : ∀ d ∈ ds, d.length ≤ 4096) : read (recs ds ++ t) = ds ++ read t ∧ end' (recs ds ++ t) = (recs ds).length + end' t := by
  induction ds with
  | nil => exact ⟨rfl, by rw [recs_nil]; simp⟩
  | cons d ds ih =>
    obtain ⟨h1, h2⟩ := ih (fun x hx => h x (List.mem_cons_of_mem _ hx))
    obtain ⟨h3, h4⟩ := read_rec d (recs ds ++ t) (h d (by simp))
    rw [recs_cons, List.append_assoc, h3, h4, h1, h2, List.length_append, rec_length]
    exact ⟨rfl, by omega⟩
theorem read_all (ds : List (List UInt8)) (h : ∀ d ∈ ds, d.length ≤ 4096) : read (recs ds) = ds ∧ end' (recs ds) = (recs ds).length := by
  have := read_recs ds [] h
  rw [List.append_nil, read_nil.1, read_nil.2, List.append_nil, Nat.add_zero] at this
  exact this
/-- A beginning of a record is none. -/
theorem read_torn (d : List UInt8) (n : Nat) (h : d.length ≤ 4096) (hn : n < d.length + 9) : read ((rec d).take n) = [] ∧ end' ((rec d).take n) = 0 := by
  refine read_no (fun hy => ?_)
  have h1 := told_length hy.1
  have hl : ((rec d).take n).length = n := by rw [List.length_take, rec_length]; omega
  rw [hl] at h1
  have h9 : 9 ≤ n := by
    have := hy.1
    rw [told, hl] at this
    simp only [Bool.and_eq_true, decide_eq_true_eq] at this
    exact this.1.1.1
  have hs : size ((rec d).take n) = d.length := by
    have e : (((rec d).take n).drop 1).take 4 = ((rec d).drop 1).take 4 := by
      rw [List.drop_take, List.take_take, Nat.min_eq_left (by omega)]
    have := size_rec d [] h
    rw [List.append_nil] at this
    rw [size, e, ← this, size]
  omega
/-- What is read of a beginning of records: those that are wholly in it. -/
theorem read_cut (ds : List (List UInt8)) (h : ∀ d ∈ ds, d.length ≤ 4096) (n : Nat) (hn : n ≤ (recs ds).length) :
    ∃ k, k ≤ ds.length ∧ read ((recs ds).take n) = ds.take k ∧ end' ((recs ds).take n) = (recs (ds.take k)).length ∧ (recs (ds.take k)).length ≤ n ∧ (k = ds.length ∨ ∀ hk : k < ds.length, n < (recs (ds.take k)).length + ds[k].length + 9) := by
  induction ds generalizing n with
  | nil =>
    refine ⟨0, Nat.le_refl _, ?_, ?_, Nat.zero_le _, .inl rfl⟩
    · rw [recs_nil, List.take_nil]; exact read_nil.1
    · rw [recs_nil, List.take_nil]; exact read_nil.2
  | cons d ds ih =>
    by_cases hd : n < d.length + 9
    · obtain ⟨h1, h2⟩ := read_torn d n (h d (by simp)) hd
      have e : (recs (d :: ds)).take n = (rec d).take n := by
        rw [recs_cons, List.take_append_of_le_length (by rw [rec_length]; omega)]
      refine ⟨0, Nat.zero_le _, by rw [e, h1]; rfl, by rw [e, h2]; rfl, Nat.zero_le _, .inr (fun hk => ?_)⟩
      show n < 0 + d.length + 9
      omega
    · obtain ⟨m, rfl⟩ : ∃ m, n = d.length + 9 + m := ⟨n - (d.length + 9), by omega⟩
      have hm : m ≤ (recs ds).length := by rw [recs_cons, List.length_append, rec_length] at hn; omega
      obtain ⟨k, hk, h1, h2, h3, h4⟩ := ih (fun x hx => h x (List.mem_cons_of_mem _ hx)) m hm
      have e : (recs (d :: ds)).take (d.length + 9 + m) = rec d ++ (recs ds).take m := by
        rw [recs_cons, ← rec_length, List.take_length_add_append]
      obtain ⟨g1, g2⟩ := read_rec d ((recs ds).take m) (h d (by simp))
      refine ⟨k + 1, by simpa using hk, by rw [e, g1, h1]; rfl, ?_, ?_, ?_⟩
      · rw [e, g2, h2, List.take_succ_cons, recs_cons, List.length_append, rec_length]
      · rw [List.take_succ_cons, recs_cons, List.length_append, rec_length]; omega
      · rcases h4 with h4 | h4
        · exact .inl (by rw [h4]; rfl)
        · refine .inr (fun hk' => ?_)
          have hkk : k < ds.length := by simpa using hk'
          have := h4 hkk
          rw [List.take_succ_cons, recs_cons, List.length_append, rec_length]
          show d.length + 9 + m < d.length + 9 + (recs (ds.take k)).length + ds[k].length + 9
          omega
end J
end Go.Proofs.Ytfbponiiejanfaa
