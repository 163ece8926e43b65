/-
  The document's Same over lists of texts: walked.
-/
import Derived.Test.YtlbhfkiihikimaaLkWords
import Derived.Deep.QuietTactic
import Derived.BigQuiet
import Derived.WalkMore
import Derived.OwnWalk
import Derived.LoopTactic
namespace Go.Proofs.Ytlbhfkiihikimaa
open Go.RowKit Go.Shelf
attribute [local go_sem] Oper.semAt_some
set_option linter.unusedVariables false
set_option linter.unusedSimpArgs false

/-- A list of texts, or a part of one. -/
def TextsW (w : World) (v : Value) (ds : List ByteArray) : Prop :=
  (v = .slice none 0 0 ∧ ds = []) ∨ ∃ g o c, v = .slice (some ⟨g, o, none⟩) ds.length c ∧ g < w.heap.size ∧ ∀ j (h : j < ds.length), w.cell? ⟨g, o + j, none⟩ = some (.string ds[j])
theorem TextsW.below {w w' : World} {v : Value} {ds : List ByteArray} {n : Nat} (h : TextsW w v ds) (hb : Below n w w') (hn : w.heap.size ≤ n) : TextsW w' v ds := by
  rcases h with h | ⟨g, o, c, rfl, hg, hx⟩
  · exact .inl h
  · exact .inr ⟨g, o, c, rfl, by have := hb.size; omega, fun j hj => (hb.cell (p := ⟨g, o + j, none⟩) (by show g < n; omega)).trans (hx j hj)⟩
theorem bytes_neq (a b : ByteArray) : (a.toList != b.toList) = !decide (a = b) := by
  rw [Lib.toList_data, Lib.toList_data]
  obtain ⟨⟨x⟩⟩ := a
  obtain ⟨⟨y⟩⟩ := b
  by_cases h : x = y
  · subst h; simp
  · have : ¬ (⟨⟨x⟩⟩ : ByteArray) = ⟨⟨y⟩⟩ := fun e => h (by cases e; rfl)
    rw [decide_eq_false this]
    simp [h]
theorem drewN_below {n : Nat} {W W' : World} (h : Below n W W') (k : Nat) : Below n W (W'.drewN k) := ⟨h.os, h.tape, h.output, h.size, h.block⟩
theorem take_eq_succ {xs ys : List ByteArray} {k : Nat} (ha : k < xs.length) (hb : k < ys.length) (h : xs.take k = ys.take k) (he : xs[k] = ys[k]) : xs.take (k + 1) = ys.take (k + 1) := by
  rw [List.take_succ_eq_append_getElem ha, List.take_succ_eq_append_getElem hb, h, he]
set_option maxRecDepth 100000 in
set_option maxHeartbeats 2000000 in
theorem refSame (va vb : Value) (xs ys : List ByteArray) (w : World) (hA : TextsW w va xs) (hB : TextsW w vb ys) (hla : xs.length ≤ 100000) : Calls Try.prog 15 #[va, vb] w fun e w' => e = .returned (.bool (decide (xs = ys))) ∧ Below w.heap.size w w' := by
  by_cases hlen : xs.length = ys.length
  · rcases hA with ⟨rfl, rfl⟩ | ⟨g, o, c, rfl, hg, hx⟩
    · obtain rfl : ys = [] := List.length_eq_zero_iff.1 hlen.symm
      rw [decide_eq_true rfl]
      rcases hB with ⟨rfl, _⟩ | ⟨g, o, c, rfl, _⟩
      · go_enter Try.func15, Try.ntmps15
        go_wp2
        go_loopw [5] (fun i W => i = .int .i64 0 ∧ W = w) (fun _ _ => 0)
        case atStart => exact ⟨rfl, rfl⟩
        case round =>
          obtain ⟨rfl, rfl⟩ := hrel
          go_wp2
          go_ret
          exact ⟨rfl, Below.refl _ _⟩
      · go_enter Try.func15, Try.ntmps15
        go_wp2
        go_loopw [5] (fun i W => i = .int .i64 0 ∧ W = w) (fun _ _ => 0)
        case atStart => exact ⟨rfl, rfl⟩
        case round =>
          obtain ⟨rfl, rfl⟩ := hrel
          go_wp2
          go_ret
          exact ⟨rfl, Below.refl _ _⟩
    · rcases hB with ⟨rfl, rfl⟩ | ⟨g', o', c', rfl, hg', hx'⟩
      · obtain rfl : xs = [] := List.length_eq_zero_iff.1 hlen
        rw [decide_eq_true rfl]
        go_enter Try.func15, Try.ntmps15
        go_wp2
        go_loopw [5] (fun i W => i = .int .i64 0 ∧ W = w) (fun _ _ => 0)
        case atStart => exact ⟨rfl, rfl⟩
        case round =>
          obtain ⟨rfl, rfl⟩ := hrel
          go_wp2
          go_ret
          exact ⟨rfl, Below.refl _ _⟩
      · rw [← hlen]
        obtain ⟨n, hn⟩ : ∃ n, xs.length = n := ⟨_, rfl⟩
        rw [hn]
        have HN := Lib.hid hn
        have HL := Lib.hid hlen
        rw [hn] at hla
        clear hn hlen
        go_enter Try.func15, Try.ntmps15
        go_wp2
        go_loopw [5] (fun i W => ∃ k : Nat, k ≤ n ∧ i = .int .i64 k ∧ xs.take k = ys.take k ∧ Below w.heap.size w W) (fun i _ => n - (intOf i).toNat)
        case atStart => exact ⟨0, Nat.zero_le _, rfl, rfl, Below.refl _ _⟩
        case round =>
          obtain ⟨k, hk, rfl, hte, hBW⟩ := hrel
          by_cases hlt : k < n
          · have hka : k < xs.length := by rw [HN.out]; exact hlt
            have hkb : k < ys.length := by rw [← HL.out, HN.out]; exact hlt
            have hca : ∀ {W : World}, Below w.heap.size w W → W.cell? ⟨g, o + k, none⟩ = some (.string xs[k]) := fun hb => (hb.cell (p := ⟨g, o + k, none⟩) hg).trans (hx k hka)
            have hcb : ∀ {W : World}, Below w.heap.size w W → W.cell? ⟨g', o' + k, none⟩ = some (.string ys[k]) := fun hb => (hb.cell (p := ⟨g', o' + k, none⟩) hg').trans (hx' k hkb)
            have qa := hca hBW
            have qb := hcb hBW
            have HTE := Lib.hid hte
            clear hte hca hcb hx hx'
            by_cases he : xs[k] = ys[k]
            · have hq : (xs[k].toList != ys[k].toList) = false := by rw [bytes_neq, decide_eq_true he]; rfl
              have hq2 : (xs[k].toList == ys[k].toList) = true := by rw [he]; simp
              have hq3 : xs[k].toList = ys[k].toList := by rw [he]
              have HS := Lib.hid (take_eq_succ hka hkb HTE.out he)
              clear he
              generalize xs[k] = a at *
              generalize ys[k] = b at *
              go_wp2
              go_quiet (fail)
              go_wp2
              go_roundw
              case rel => exact ⟨k + 1, by omega, by go_num, HS.out, drewN_below hBW _⟩
              case measure => simp [intOf]; omega
            · have hq : (xs[k].toList != ys[k].toList) = true := by rw [bytes_neq, decide_eq_false he]; rfl
              have hq2 : (xs[k].toList == ys[k].toList) = false := by rw [bne, Bool.not_eq_true'] at hq; exact hq
              have HF := Lib.hid (show decide (xs = ys) = false from decide_eq_false (fun h => he (by subst h; rfl)))
              clear he
              generalize xs[k] = a at *
              generalize ys[k] = b at *
              go_wp2
              go_quiet (fail)
              go_wp2
              go_ret
              exact ⟨by rw [HF.out]; rfl, drewN_below hBW _⟩
          · obtain rfl : k = n := by omega
            have hfin : xs = ys := by
              have h1 : xs.take k = xs := List.take_of_length_le (by rw [HN.out]; exact Nat.le_refl _)
              have h2 : ys.take k = ys := List.take_of_length_le (by rw [← HL.out, HN.out]; exact Nat.le_refl _)
              rw [← h1, ← h2, hte]
            have HF := Lib.hid (decide_eq_true hfin)
            clear hfin hte hx hx'
            go_wp2
            go_ret
            exact ⟨by rw [HF.out]; rfl, hBW⟩
  · have hf : decide (xs = ys) = false := decide_eq_false (fun h => hlen (by rw [h]))
    rw [hf]
    have hne : ((xs.length : Int) != (ys.length : Int)) = true := by rw [bne_iff_ne]; omega
    have ea : ∃ a c, va = .slice a xs.length c := by
      rcases hA with ⟨rfl, rfl⟩ | ⟨g, o, c, rfl, _⟩
      · exact ⟨_, _, rfl⟩
      · exact ⟨_, _, rfl⟩
    have eb : ∃ a c, vb = .slice a ys.length c := by
      rcases hB with ⟨rfl, rfl⟩ | ⟨g, o, c, rfl, _⟩
      · exact ⟨_, _, rfl⟩
      · exact ⟨_, _, rfl⟩
    obtain ⟨a, c, rfl⟩ := ea
    obtain ⟨a', c', rfl⟩ := eb
    clear hA hB hf hlen
    generalize xs.length = n at *
    generalize ys.length = m at *
    go_enter Try.func15, Try.ntmps15
    go_wp2
    go_ret
    exact ⟨rfl, Below.refl _ _⟩
theorem Words.part {w : World} {base : Nat} {v : Value} {l : List ByteArray} (h : Words w base v l) : TextsW w v l := by
  rcases h with h | ⟨g, cap, cur, rfl, hb, hw, hc, hm, hs, ht⟩
  · exact .inl h
  · have h' : Words w base (.slice (some ⟨g, 0, none⟩) l.length cap) l := .inr ⟨g, cap, cur, rfl, hb, hw, hc, hm, hs, ht⟩
    refine .inr ⟨g, 0, cap, rfl, (Array.getElem?_eq_some_iff.1 hw).1, fun j hj => ?_⟩
    obtain ⟨g', c', e, _, _, _, hcell⟩ := h'.cell j hj
    cases e
    rw [Nat.zero_add]; exact hcell
end Go.Proofs.Ytlbhfkiihikimaa
