/-
  The law's some: walked.
-/
import Derived.Test.YtigameebcicgpaaBtRef4
import Derived.Test.YtigameebcicgpaaBtIn
namespace Go.Proofs.Ytigameebcicgpaa
open Go.RowKit Go.Shelf
attribute [local go_sem] Oper.semAt_some
set_option linter.unusedVariables false
set_option linter.unusedSimpArgs false

theorem add_off (a : Addr) (m n : Nat) (hn : 0 < n) : (⟨(a.add m).block, (a.add m).off + n, none⟩ : Addr) = a.add (m + n) := by
  simp only [Addr.add]
  by_cases hm : m = 0
  · subst hm
    simp [show n ≠ 0 by omega]
  · simp [hm, Nat.add_assoc]
abbrev Vi := Nat × Nat × ByteArray
def vt (x : Vi) : Vt := ⟨x.1, x.2.1, x.2.2⟩
def vtCut (x : Vi) : Vt := ⟨x.1, x.2.1, cut41 x.2.2⟩
/-- What some tells. -/
def someOf (l : List Vi) : List Vt := (l.take 20).map vtCut
theorem someOf_len (l : List Vi) : (someOf l).length ≤ 20 := by simp [someOf]; omega
theorem someOf_small (l : List Vi) : ∀ v ∈ someOf l, v.val'.size ≤ 4100 := fun v hv => by
  obtain ⟨x, _, rfl⟩ := List.mem_map.1 hv
  exact cut41_size _
theorem vtin_form {w : World} {v : Value} {l : List Vi} (h : VtIn w v l) : ∃ a c, v = .slice a l.length c ∧ l.length ≤ c := by
  rcases h with ⟨rfl, rfl⟩ | ⟨a, c, rfl, hc, _⟩
  · exact ⟨_, _, rfl, Nat.le_refl _⟩
  · exact ⟨_, _, rfl, hc⟩
/-- The first of them. -/
theorem vtin_part {w : World} {a : Option Addr} {n c : Nat} {l : List Vi} (h : VtIn w (.slice a n c) l) (k : Nat) (hk : k ≤ l.length) : VtIn w (.slice a k c) (l.take k) := by
  rcases h with ⟨h1, rfl⟩ | ⟨a', c', h1, hc, hx⟩
  · simp only [Value.slice.injEq] at h1
    obtain ⟨rfl, _, rfl⟩ := h1
    obtain rfl : k = 0 := by simpa using hk
    exact .inl ⟨rfl, rfl⟩
  · simp only [Value.slice.injEq] at h1
    obtain ⟨rfl, _, rfl⟩ := h1
    have e : (l.take k).length = k := by rw [List.length_take]; omega
    refine .inr ⟨a', c, by rw [e], by rw [e]; omega, fun j hj => ?_⟩
    have hj' : j < l.length := by omega
    rw [List.getElem_take]
    exact hx j hj'
theorem vtin_at {w : World} {v : Value} {l : List Vi} (h : VtIn w v l) (k : Nat) (hk : k < l.length) : ∃ a c, v = .slice (some a) l.length c ∧ ∀ W, Below w.heap.size w W →
    W.cell? (a.add (k * 3)) = some (.int .u64 ((l[k].1 : Nat) : Int)) ∧ W.cell? ⟨(a.add (k * 3)).block, (a.add (k * 3)).off + 1, none⟩ = some (.int .u64 ((l[k].2.1 : Nat) : Int)) ∧ W.cell? ⟨(a.add (k * 3)).block, (a.add (k * 3)).off + 2, none⟩ = some (.string l[k].2.2) := by
  rcases h with ⟨rfl, rfl⟩ | ⟨a, c, rfl, _, hx⟩
  · simp at hk
  · refine ⟨a, c, rfl, fun W hb => ?_⟩
    obtain ⟨h0, h1, h2⟩ := hx k hk
    have hbl : ∀ j, (a.add j).block < w.heap.size := fun j => by rw [add_block]; exact cell_block h0
    refine ⟨?_, ?_, ?_⟩
    · exact (hb.cell (hbl _)).trans h0
    · rw [add_off _ _ _ (by decide)]; exact (hb.cell (hbl _)).trans h1
    · rw [add_off _ _ _ (by decide)]; exact (hb.cell (hbl _)).trans h2
/-- A vote that was just laid in memory. -/
theorem cell_voteg (w : World) (g p b : Nat) (s : ByteArray) (t : TypeId) (hg : g = w.heap.size) : ∀ j u, (flat [⟨p, b, s⟩])[j]? = some u → (w.alloc (.cells #[.int .u64 (p : Int), .int .u64 (b : Int), .string s] t)).cell? ((⟨g, 0, none⟩ : Addr).add j) = some u := by
  subst hg; exact cell_vote w ⟨p, b, s⟩ t
theorem someOf_take (l : List Vi) (k : Nat) (hk : k < l.length) : (l.take (k + 1)).map vtCut = (l.take k).map vtCut ++ [vtCut l[k]] := by
  rw [List.take_succ_eq_append_getElem hk, List.map_append]; rfl
set_option maxRecDepth 100000 in
set_option maxHeartbeats 2000000 in
theorem lawSome8 (v0 : Value) (l : List Vi) (w : World) (hT : VtIn w v0 l) (hl : l.length ≤ maxLen) (hsz : ∀ x ∈ l, x.2.2.size ≤ maxLen) : Calls Try.prog 18 #[v0] w fun e w' => (∃ u, e = .returned u ∧ Votes w' w.heap.size u (someOf l)) ∧ Below w.heap.size w w' := by
  obtain ⟨a0, c0, rfl, _⟩ := vtin_form hT
  obtain ⟨len, hlen⟩ : ∃ len, l.length = len := ⟨_, rfl⟩
  have HT := Lib.hid hT
  have HL := Lib.hid hlen
  have HSZ := Lib.hid hsz
  rw [hlen] at hl ⊢
  clear hT hlen hsz
  unfold maxLen at hl
  go_enter Try.func18, Try.ntmps18
  go_wp2
  go_loopw [3, 4] (fun v i wr => ∃ k : Nat, k ≤ len ∧ k ≤ 20 ∧ i = .int .i64 (k : Int) ∧ Votes wr w.heap.size v ((l.take k).map vtCut) ∧ Below w.heap.size w wr) (fun _ i _ => 20 - (intOf i).toNat)
  case atStart => exact ⟨0, Nat.zero_le _, Nat.zero_le _, rfl, Votes.nil _ _, Below.refl _ _⟩
  case round =>
    obtain ⟨k, hk, hk20, rfl, hV, hBW⟩ := hrel
    by_cases hlt : k < len
    · by_cases h20 : k < 20
      · have hkl : k < l.length := by rw [HL.out]; exact hlt
        obtain ⟨ad, c', e1, hx⟩ := vtin_at HT.out k hkl
        simp only [Value.slice.injEq] at e1
        obtain ⟨rfl, -, -⟩ := e1
        have hki : (k : Int) < (len : Int) := by omega
        have hki2 : (k : Int) < 20 := by omega
        obtain ⟨q0, q1, q2⟩ := hx wr hBW
        have HCT := Lib.hid (fun W => lawCut8 l[k].2.2 (HSZ.out _ (List.getElem_mem hkl)) W)
        have HNX := Lib.hid (someOf_take l k hkl)
        have hds : ((l.take k).map vtCut).length + 1 ≤ 1000000 := by rw [List.length_map, List.length_take]; omega
        clear hx
        obtain ⟨av, cv, hv, hcv⟩ := hV.form
        obtain ⟨dl, hdl⟩ : ∃ dl, ((l.take k).map vtCut).length = dl := ⟨_, rfl⟩
        rw [hdl] at hv
        generalize l[k] = x at *
        obtain ⟨xp, xb, xs⟩ := x
        dsimp only at q0 q1 q2 HCT
        have HVV := Lib.hid hV
        have HBW := Lib.hid hBW
        have hsz2 := hBW.size
        clear hV hBW
        subst hv
        go_wp2_with (first
          | (go_at_call 11; refine (HCT.out _).mono ?_; rintro e w1 ⟨rfl, rfl⟩)
          | (at_builtin; refine wpList_append_votes rfl _ _ rfl w.heap.size (.slice av dl cv) ((l.take k).map vtCut) rfl (HVV.out.below (((Below.refl _ wr).alloc (Nat.le_refl _) _).alloc (by simp) _)) ⟨wr.heap.size + 1, 0, none⟩ 1 1 [⟨xp, xb, cut41 xs⟩] rfl rfl (cell_voteg _ _ _ _ _ _ (by simp)) hds (by simp; omega) ?_; intro v' w3 ho hg hat; replace ho : Votes w3 w.heap.size v' ((l.take k).map vtCut ++ [vtCut (xp, xb, xs)]) := ho; rw [← HNX.out] at ho))
        go_roundw
        case rel =>
          refine ⟨k + 1, by omega, by omega, by go_num, ho, HBW.out.trans ?_⟩
          exact (((Below.refl _ wr).alloc hsz2 _).alloc (by simp; omega) _).grown hg (by simp; omega) (fun j ej => (HVV.out.lt j ej).1)
        case measure => simp [intOf]; omega
      · obtain rfl : k = 20 := by omega
        have hk20i : ¬ ((20 : Nat) : Int) < 20 := by omega
        have HVV := Lib.hid hV
        obtain ⟨av, cv, hv, hcv⟩ := hV.form
        generalize ((l.take 20).map vtCut).length = dl at hv
        clear hV
        subst hv
        go_wp2
        go_ret
        exact ⟨⟨_, rfl, HVV.out⟩, hBW⟩
    · obtain rfl : k = len := by omega
      have hall : (l.take k).map vtCut = someOf l := by
        rw [someOf, List.take_of_length_le (by rw [HL.out]; exact Nat.le_refl _), List.take_of_length_le (by rw [HL.out]; exact hk20)]
      rw [hall] at hV
      have HVV := Lib.hid hV
      obtain ⟨av, cv, hv, hcv⟩ := hV.form
      generalize (someOf l).length = dl at hv
      clear hV
      subst hv
      go_wp2
      go_ret
      exact ⟨⟨_, rfl, HVV.out⟩, hBW⟩
end Go.Proofs.Ytigameebcicgpaa
