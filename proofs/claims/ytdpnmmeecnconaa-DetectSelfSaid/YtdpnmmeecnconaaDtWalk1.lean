/-
  The document's Same; detect.comes, all: walked.
-/
import Derived.Test.YtdpnmmeecnconaaDtMap
import Derived.LoopNIn
import Derived.LoopIn
import Derived.TacticsInMore
namespace Go.Proofs.Ytdpnmmeecnconaa
open Go.RowKit Go.Shelf
attribute [local go_sem] Oper.semAt_some
set_option linter.unusedVariables false
set_option linter.unusedSimpArgs false

theorem lt_of_cell {w : World} {p : Addr} {v : Value} (h : w.cell? p = some v) : p.block < w.heap.size := World.block_lt_of_cell? w p h
/-- A list of numbers in memory. -/
def NumsA (w : World) (v : Value) (l : List Nat) : Prop :=
  (v = .slice none 0 0 ∧ l = []) ∨ ∃ g c, v = .slice (some ⟨g, 0, none⟩) l.length c ∧ g < w.heap.size ∧ ∀ j (h : j < l.length), w.cell? ⟨g, j, none⟩ = some (intV l[j])
theorem Nums.toA {w : World} {base : Nat} {v : Value} {l : List Nat} (h : Nums w base v l) : NumsA w v l := by
  rcases h with h | ⟨g, c, rfl, hc, hb, hg, hx⟩
  · exact .inl h
  · exact .inr ⟨g, c, rfl, hg, hx⟩
theorem NumsA.form {w : World} {v : Value} {l : List Nat} (h : NumsA w v l) : ∃ a c, v = .slice a l.length c := by
  rcases h with ⟨rfl, rfl⟩ | ⟨g, c, rfl, _⟩
  · exact ⟨_, _, rfl⟩
  · exact ⟨_, _, rfl⟩
theorem NumsA.below {w w' : World} {v : Value} {l : List Nat} (h : NumsA w v l) (hb : Below w.heap.size w w') : NumsA w' v l := by
  rcases h with h | ⟨g, c, rfl, hg, hx⟩
  · exact .inl h
  · exact .inr ⟨g, c, rfl, by have := hb.size; omega, fun j hj => (hb.cell (p := ⟨g, j, none⟩) hg).trans (hx j hj)⟩
theorem takes_succ {xs ys : List Nat} {k : Nat} (ha : k < xs.length) (hb : k < ys.length) (h : xs.take k = ys.take k) (he : xs[k] = ys[k]) : xs.take (k + 1) = ys.take (k + 1) := by
  rw [List.take_succ_eq_append_getElem ha, List.take_succ_eq_append_getElem hb, h, he]
set_option maxRecDepth 100000 in
set_option maxHeartbeats 2000000 in
theorem refSame (va vb : Value) (xs ys : List Nat) (w : World) (hA : NumsA w va xs) (hB : NumsA w vb ys) (hla : xs.length ≤ 100000) : Calls Try.prog 15 #[va, vb] w fun e w' => e = .returned (.bool (decide (xs = ys))) ∧ Below w.heap.size w w' := by
  obtain ⟨a, c, ea⟩ := hA.form
  obtain ⟨a', c', eb⟩ := hB.form
  by_cases hlen : xs.length = ys.length
  · rw [← hlen] at eb
    have HA := Lib.hid hA
    have HB := Lib.hid hB
    obtain ⟨n, hn⟩ : ∃ n, xs.length = n := ⟨_, rfl⟩
    rw [hn] at ea eb hla
    have HN := Lib.hid hn
    have HL := Lib.hid hlen
    have HE := Lib.hid ea
    have HF := Lib.hid eb
    clear hn hlen hA hB
    subst ea eb
    go_enter Try.func15, Try.ntmps15
    go_wp2
    go_loopw [5] (fun i W => ∃ k : Nat, k ≤ n ∧ i = .int .i64 k ∧ xs.take k = ys.take k ∧ Below w.heap.size w W) (fun i _ => n - (intOf i).toNat)
    case atStart => exact ⟨0, Nat.zero_le _, rfl, rfl, Below.refl _ _⟩
    case round =>
      obtain ⟨k, hk, rfl, hte, hBW⟩ := hrel
      by_cases hlt : k < n
      · have hka : k < xs.length := by rw [HN.out]; exact hlt
        have hkb : k < ys.length := by rw [← HL.out, HN.out]; exact hlt
        have hki : (k : Int) < (n : Int) := by omega
        rcases HA.out with ⟨_, e0⟩ | ⟨g, c1, e1, hg, hx⟩
        · rw [e0] at hka; simp at hka
        rcases HB.out with ⟨_, e0⟩ | ⟨g', c1', e1', hg', hx'⟩
        · rw [e0] at hkb; simp at hkb
        simp only [Value.slice.injEq] at e1 e1'
        obtain ⟨rfl, -, -⟩ := e1
        obtain ⟨rfl, -, -⟩ := e1'
        have qa : wr.cell? ⟨g, k, none⟩ = some (.int .i64 ((xs[k] : Nat) : Int)) := (hBW.cell (p := ⟨g, k, none⟩) hg).trans (hx k hka)
        have qb : wr.cell? ⟨g', k, none⟩ = some (.int .i64 ((ys[k] : Nat) : Int)) := (hBW.cell (p := ⟨g', k, none⟩) hg').trans (hx' k hkb)
        have HTE := Lib.hid hte
        clear hte hx hx'
        by_cases he : xs[k] = ys[k]
        · have hq : (((xs[k] : Nat) : Int) != ((ys[k] : Nat) : Int)) = false := by rw [he]; simp
          have hq2 : (((xs[k] : Nat) : Int) == ((ys[k] : Nat) : Int)) = true := by rw [he]; simp
          have hq3 : ((xs[k] : Nat) : Int) = ((ys[k] : Nat) : Int) := by rw [he]
          have HS := Lib.hid (takes_succ hka hkb HTE.out he)
          clear he
          generalize ((xs[k] : Nat) : Int) = p at *
          generalize ((ys[k] : Nat) : Int) = q at *
          go_wp2
          go_quiet (fail)
          go_wp2
          go_roundw
          case rel => exact ⟨k + 1, by omega, by go_num, HS.out, drewN_below hBW _⟩
          case measure => simp [intOf]; omega
        · have hq : (((xs[k] : Nat) : Int) != ((ys[k] : Nat) : Int)) = true := by rw [bne_iff_ne]; omega
          have hq2 : (((xs[k] : Nat) : Int) == ((ys[k] : Nat) : Int)) = false := by rw [beq_eq_false_iff_ne]; omega
          have HF := Lib.hid (show decide (xs = ys) = false from decide_eq_false (fun h => he (by subst h; rfl)))
          clear he
          generalize ((xs[k] : Nat) : Int) = p at *
          generalize ((ys[k] : Nat) : Int) = q at *
          go_wp2
          go_quiet (fail)
          go_wp2
          go_ret
          exact ⟨by rw [HF.out]; rfl, drewN_below hBW _⟩
      · obtain rfl : k = n := by omega
        have hfin : xs = ys := by
          have h1 : xs.take k = xs := List.take_of_length_le (by rw [HN.out]; exact Nat.le_refl _)
          have h2 : ys.take k = ys := List.take_of_length_le (by rw [← HL.out, HN.out]; exact Nat.le_refl _)
          rw [← h1, ← h2, hte]
        have HF := Lib.hid (decide_eq_true hfin)
        clear hfin hte
        go_wp2
        go_ret
        exact ⟨by rw [HF.out]; rfl, hBW⟩
  · have hf : decide (xs = ys) = false := decide_eq_false (fun h => hlen (by rw [h]))
    rw [hf]
    have hne : ((xs.length : Int) != (ys.length : Int)) = true := by rw [bne_iff_ne]; omega
    subst ea eb
    clear hA hB hf hlen
    generalize xs.length = n at *
    generalize ys.length = m at *
    go_enter Try.func15, Try.ntmps15
    go_wp2
    go_ret
    exact ⟨rfl, Below.refl _ _⟩
/-- Three numbers in a row that was just laid. -/
theorem row_three (k : IntKind) (W : World) (a b c : Int) (T : TypeId) : ∀ j (h : j < [a, b, c].length), (W.alloc (.cells #[.int k a, .int k b, .int k c] T)).cell? ⟨W.heap.size, j, none⟩ = some (.int k [a, b, c][j]) := by
  intro j hj
  rcases j with _ | _ | _ | j
  · simp
  · simp
  · simp
  · simp at hj; omega
theorem row_two (k : IntKind) (W : World) (a b : Int) (T : TypeId) : ∀ j (h : j < [a, b].length), (W.alloc (.cells #[.int k a, .int k b] T)).cell? ⟨W.heap.size, j, none⟩ = some (.int k [a, b][j]) := by
  intro j hj
  rcases j with _ | _ | j
  · simp
  · simp
  · simp at hj; omega
theorem row_four (k : IntKind) (W : World) (a b c d : Int) (T : TypeId) : ∀ j (h : j < [a, b, c, d].length), (W.alloc (.cells #[.int k a, .int k b, .int k c, .int k d] T)).cell? ⟨W.heap.size, j, none⟩ = some (.int k [a, b, c, d][j]) := by
  intro j hj
  rcases j with _ | _ | _ | _ | j
  · simp
  · simp
  · simp
  · simp
  · simp at hj; omega
set_option maxRecDepth 100000 in
set_option maxHeartbeats 1000000 in
theorem dtComes (D : Dt) (B M : Nat) (t : Nat) (w : World) (h : Dt.Is D B M w) : Calls Try.prog 16 #[.pointer (some ⟨B, 0, none⟩), .int .u64 (t : Int)] w fun e w' => e = .returned (.bool (decide (D.timely t))) ∧ Below w.heap.size w w' := by
  have h3 : w.cell? ⟨B, 3, none⟩ = some (.int .u64 (D.now : Int)) := h.cell 3 _ rfl
  have hB := h.lt
  have HT := Lib.hid (show rises [(D.now : Int), (t : Int), 1152921504606846976] = decide (D.timely t) from by
    rw [rises_three, ← Bool.decide_and]
    exact decide_eq_decide.2 (by unfold Dt.timely Dt.maxTime; omega))
  clear h
  generalize D.now = n at *
  generalize decide (D.timely t) = R at *
  go_enter Try.func16, Try.ntmps16
  go_wp2_with (go_at_call 22; refine (dtRisingU [(n : Int), (t : Int), 1152921504606846976] _ _ _ (by simp) (row_three _ _ _ _ _ _) (by simp) (by simp)).mono ?_; rintro e w1 ⟨rfl, hb⟩)
  go_ret
  exact ⟨by rw [HT.out]; rfl, ((Below.refl _ w).alloc (Nat.le_refl _) _).trans (hb.mono (by simp))⟩
theorem dtAll (p : Option Addr) (w : World) : Calls Try.prog 20 #[.pointer p] w fun e w' =>
    e = .returned (.func (.func 23) #[] #[.pointer (some ⟨w.heap.size, 0, none⟩)]) ∧ w.alloc (.cells #[.pointer p] 24) = w' := by
  go_enter Try.func20, Try.ntmps20
  go_wp2
  go_ret
  exact ⟨rfl, rfl⟩
end Go.Proofs.Ytdpnmmeecnconaa
