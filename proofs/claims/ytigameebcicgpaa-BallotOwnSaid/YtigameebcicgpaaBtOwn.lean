/-
  The law BallotOwn: walked.
-/
import Derived.Test.YtigameebcicgpaaBtShown
import Derived.Test.YtigameebcicgpaaDtU64s
namespace Go.Proofs.Ytigameebcicgpaa
open Go.RowKit Go.Shelf
attribute [local go_sem] Oper.semAt_some
set_option linter.unusedVariables false
set_option linter.unusedSimpArgs false

/-- Acceptors that have promised, and voted in no ballot. -/
def fresh8 (l : List Nat) : List Vt := l.map fun p => ⟨p, 0, ⟨#[]⟩⟩
theorem fresh8_take (l : List Nat) (k : Nat) (hk : k < l.length) : fresh8 (l.take (k + 1)) = fresh8 (l.take k) ++ [⟨l[k], 0, ⟨#[]⟩⟩] := by
  rw [fresh8, List.take_succ_eq_append_getElem hk, List.map_append]; rfl
theorem fresh8_len (l : List Nat) : (fresh8 l).length = l.length := List.length_map _
theorem fresh8_right (l : List Nat) : ∀ v ∈ fresh8 l, Bt.Right v ∧ v.val'.size ≤ 1000000 := fun v hv => by
  obtain ⟨p, _, rfl⟩ := List.mem_map.1 hv
  exact ⟨⟨Nat.zero_le _, .inr rfl, Nat.zero_le _⟩, Nat.zero_le _⟩
theorem fresh8_best (l : List Nat) (own : ByteArray) : Bt.best (fresh8 l) own = (0, own) := by
  unfold Bt.best
  induction l with
  | nil => rfl
  | cons p l ih => exact ih
/-- A text's first 4000 bytes. -/
def cut40 (s : ByteArray) : ByteArray := s.extract 0 (min (s.size : Int) 4000).toNat
theorem cut40_size (s : ByteArray) : (cut40 s).size ≤ 4000 := by rw [cut40, ByteArray.size_extract]; omega
theorem own_prop (n : Int) (l : List Nat) (s : ByteArray) : Bt.propE n (fresh8 l) (cut40 s) = (if 1 ≤ n ∧ n ≤ 16 ∧ (l.length : Int) ≤ n ∧ n < 2 * (l.length : Int) then 0 else 81) ∧ ((1 ≤ n ∧ n ≤ 16 ∧ (l.length : Int) ≤ n ∧ n < 2 * (l.length : Int)) → Bt.propS n (fresh8 l) (cut40 s) = cut40 s) := by
  have e : Bt.propE n (fresh8 l) (cut40 s) = (if 1 ≤ n ∧ n ≤ 16 ∧ (l.length : Int) ≤ n ∧ n < 2 * (l.length : Int) then 0 else 81) := by
    unfold Bt.propE
    rw [fresh8_len]
    split
    · rw [if_pos ⟨cut40_size s, fun v hv => (fresh8_right l v hv).1⟩]
    · rfl
  refine ⟨e, fun h => ?_⟩
  unfold Bt.propS
  rw [e, if_pos h, if_pos rfl, fresh8_best]
theorem own_none (n : Int) (l : List Nat) (s : ByteArray) (h : ¬ (1 ≤ n ∧ n ≤ 16 ∧ (l.length : Int) ≤ n ∧ n < 2 * (l.length : Int))) : Bt.propE n (fresh8 l) (cut40 s) = 81 := by rw [(own_prop n l s).1, if_neg h]
theorem own_some (n : Int) (l : List Nat) (s : ByteArray) (h : 1 ≤ n ∧ n ≤ 16 ∧ (l.length : Int) ≤ n ∧ n < 2 * (l.length : Int)) : Bt.propE n (fresh8 l) (cut40 s) = 0 ∧ Bt.propS n (fresh8 l) (cut40 s) = cut40 s := ⟨by rw [(own_prop n l s).1, if_pos h], (own_prop n l s).2 h⟩
set_option maxRecDepth 100000 in
set_option maxHeartbeats 4000000 in
theorem lawOwn8 (n : Int) (v0 : Value) (l : List Nat) (s : ByteArray) (w : World) (hT : U64s w v0 l) (hll : l.length ≤ maxLen) (hs : s.size ≤ maxLen) : Calls Try.prog 9 #[.int .i64 n, v0, .string s] w fun e w' => e = .returned (.bool true) ∧ Below w.heap.size w w' := by
  obtain ⟨a0, c0, rfl⟩ := u64s_form hT
  obtain ⟨len, hlen⟩ : ∃ len, l.length = len := ⟨_, rfl⟩
  have HT := Lib.hid hT
  have HL := Lib.hid hlen
  rw [hlen] at hll ⊢
  clear hT hlen
  unfold maxLen at hll hs
  have H1 := Lib.hid (fun W => lawShown8 W)
  have HSS := Lib.hid (show ((4000 : Int) < (s.size : Int) ∧ cut40 s = s.extract 0 4000) ∨ (¬ (4000 : Int) < (s.size : Int) ∧ cut40 s = s) from by
    by_cases h : (4000 : Int) < (s.size : Int)
    · exact .inl ⟨h, by rw [cut40, show min (s.size : Int) 4000 = 4000 by omega]; rfl⟩
    · exact .inr ⟨h, by rw [cut40, show min (s.size : Int) 4000 = (s.size : Int) by omega, Int.toNat_natCast]; simp⟩)
  go_enter Try.func9, Try.ntmps9
  go_wp2_with (go_at_call 10; refine (H1.out _).mono ?_; rintro e w1 ⟨rfl, hb1⟩)
  have hs1 := hb1.size
  go_loopw [8, 9] (fun v i wr => ∃ k : Nat, k ≤ len ∧ k ≤ 16 ∧ i = .int .i64 (k : Int) ∧ Votes wr w.heap.size v (fresh8 (l.take k)) ∧ Below w.heap.size w wr) (fun _ i _ => 16 - (intOf i).toNat)
  case atStart => exact ⟨0, Nat.zero_le _, Nat.zero_le _, rfl, Votes.nil _ _, hb1⟩
  case round =>
    obtain ⟨k, hk, hk16, rfl, hV, hBW⟩ := hrel
    clear hb1
    by_cases hgo : k < len ∧ k < 16
    · obtain ⟨hlt, h16⟩ := hgo
      have hkl : k < l.length := by rw [HL.out]; exact hlt
      obtain ⟨ad, c', e1, hx⟩ := u64s_at HT.out k hkl
      simp only [Value.slice.injEq] at e1
      obtain ⟨rfl, -, -⟩ := e1
      have hki : (k : Int) < (len : Int) := by omega
      have hki2 : (k : Int) < 16 := by omega
      have q0 := hx wr hBW
      have HNX := Lib.hid (fresh8_take l k hkl)
      have hds : (fresh8 (l.take k)).length + 1 ≤ 1000000 := by rw [fresh8_len, List.length_take]; omega
      clear hx
      obtain ⟨av, cv, hv, hcv⟩ := hV.form
      obtain ⟨dl, hdl⟩ : ∃ dl, (fresh8 (l.take k)).length = dl := ⟨_, rfl⟩
      rw [hdl] at hv
      generalize l[k] = x at *
      have HVV := Lib.hid hV
      have HBW := Lib.hid hBW
      have hsz2 := hBW.size
      clear hV hBW
      subst hv
      go_wp2_with (at_builtin; refine wpList_append_votes rfl _ _ rfl w.heap.size (.slice av dl cv) (fresh8 (l.take k)) rfl (HVV.out.below ((Below.refl _ wr).alloc (Nat.le_refl _) _)) ⟨wr.heap.size, 0, none⟩ 1 1 [⟨x, 0, ⟨#[]⟩⟩] rfl rfl (cell_voteg _ _ _ _ _ _ rfl) hds (by simp; omega) ?_; intro v' w3 ho hg hat; rw [← HNX.out] at ho)
      go_roundw
      case rel =>
        refine ⟨k + 1, by omega, by omega, by go_num, ho, HBW.out.trans ?_⟩
        exact (((Below.refl _ wr).alloc hsz2 _)).grown hg (by simp; omega) (fun j ej => (HVV.out.lt j ej).1)
      case measure => simp [intOf]; omega
    · have hend : (k = 16 ∧ k < len) ∨ k = len := by omega
      obtain ⟨m, hm⟩ : ∃ m, (l.take k).length = m := ⟨_, rfl⟩
      have hm16 : m ≤ 16 := by rw [← hm, List.length_take]; omega
      have HPN := Lib.hid (fun h => own_none n (l.take k) s h)
      have HPS := Lib.hid (fun h => own_some n (l.take k) s h)
      rw [hm] at HPN HPS
      have hlv : (fresh8 (l.take k)).length = m := by rw [fresh8_len]; exact hm
      have HPR := Lib.hid (fun W (hb : Below wr.heap.size wr W) => btProposal n _ (fresh8 (l.take k)) (cut40 s) W (hV.below hb).toR (by rw [hlv]; omega) (fun v hv => (fresh8_right _ v hv).2) (Nat.le_trans (cut40_size s) (by decide)))
      obtain ⟨av, cv, hv, hcv⟩ := hV.form
      rw [hlv] at hv
      clear hV hgo hm hlv hcv
      generalize fresh8 (l.take k) = F at *
      have hw2 : IntKind.i64.wrap (2 * (m : Int)) = 2 * (m : Int) := IntWalk.i64_in _ (by omega)
      subst hv
      rcases hend with ⟨rfl, h16⟩ | rfl
      · have hk16i : ¬ ((16 : Nat) : Int) < 16 := by omega
        have hk16j : ((16 : Nat) : Int) < (len : Int) := by omega
        have hk16k : (16 : Int) < (len : Int) := by omega
        by_cases h1 : n < 1
        · have d1 : decide (n < 1) = true := decide_eq_true (by omega)
          have d1' : n < 1 := by omega
          have hE := HPN.out (by omega)
          rw [hE] at HPR
          have HP := HPR
          clear HPN HPS hE HPR
          rcases HSS.out with ⟨hz, hc⟩ | ⟨hz, hc⟩
          · rw [hc] at HP
            have hz2 : min (s.size : Int) 4000 = 4000 := by omega
            have hz3 : ¬ (s.size : Int) < 4000 := by omega
            clear hc hs
            go_wp2_with (go_at_call 19; refine (HP.out _ (Below.refl _ _)).mono ?_; rintro e w2 ⟨rfl, hb2⟩)
            go_ret
            exact ⟨rfl, hBW.trans (hb2.mono hBW.size)⟩
          · rw [hc] at HP
            have hz2 : min (s.size : Int) 4000 = (s.size : Int) := by omega
            clear hc hs
            go_wp2_with (go_at_call 19; refine (HP.out _ (Below.refl _ _)).mono ?_; rintro e w2 ⟨rfl, hb2⟩)
            go_ret
            exact ⟨rfl, hBW.trans (hb2.mono hBW.size)⟩
        · have d1 : decide (n < 1) = false := decide_eq_false (by omega)
          have d1' : ¬ n < 1 := by omega
          by_cases h2 : 16 < n
          · have d2 : decide (16 < n) = true := decide_eq_true (by omega)
            have d2' : 16 < n := by omega
            have hE := HPN.out (by omega)
            rw [hE] at HPR
            have HP := HPR
            clear HPN HPS hE HPR
            rcases HSS.out with ⟨hz, hc⟩ | ⟨hz, hc⟩
            · rw [hc] at HP
              have hz2 : min (s.size : Int) 4000 = 4000 := by omega
              have hz3 : ¬ (s.size : Int) < 4000 := by omega
              clear hc hs
              go_wp2_with (go_at_call 19; refine (HP.out _ (Below.refl _ _)).mono ?_; rintro e w2 ⟨rfl, hb2⟩)
              go_ret
              exact ⟨rfl, hBW.trans (hb2.mono hBW.size)⟩
            · rw [hc] at HP
              have hz2 : min (s.size : Int) 4000 = (s.size : Int) := by omega
              clear hc hs
              go_wp2_with (go_at_call 19; refine (HP.out _ (Below.refl _ _)).mono ?_; rintro e w2 ⟨rfl, hb2⟩)
              go_ret
              exact ⟨rfl, hBW.trans (hb2.mono hBW.size)⟩
          · have d2 : decide (16 < n) = false := decide_eq_false (by omega)
            have d2' : ¬ 16 < n := by omega
            by_cases h3 : n < (m : Int)
            · have d3 : decide (n < (m : Int)) = true := decide_eq_true (by omega)
              have d3' : n < (m : Int) := by omega
              have hE := HPN.out (by omega)
              rw [hE] at HPR
              have HP := HPR
              clear HPN HPS hE HPR
              rcases HSS.out with ⟨hz, hc⟩ | ⟨hz, hc⟩
              · rw [hc] at HP
                have hz2 : min (s.size : Int) 4000 = 4000 := by omega
                have hz3 : ¬ (s.size : Int) < 4000 := by omega
                clear hc hs
                go_wp2_with (go_at_call 19; refine (HP.out _ (Below.refl _ _)).mono ?_; rintro e w2 ⟨rfl, hb2⟩)
                go_ret
                exact ⟨rfl, hBW.trans (hb2.mono hBW.size)⟩
              · rw [hc] at HP
                have hz2 : min (s.size : Int) 4000 = (s.size : Int) := by omega
                clear hc hs
                go_wp2_with (go_at_call 19; refine (HP.out _ (Below.refl _ _)).mono ?_; rintro e w2 ⟨rfl, hb2⟩)
                go_ret
                exact ⟨rfl, hBW.trans (hb2.mono hBW.size)⟩
            · have d3 : decide (n < (m : Int)) = false := decide_eq_false (by omega)
              have d3' : ¬ n < (m : Int) := by omega
              by_cases h4 : 2 * (m : Int) ≤ n
              · have d4 : decide (2 * (m : Int) ≤ n) = true := decide_eq_true (by omega)
                have d4' : 2 * (m : Int) ≤ n := by omega
                have hE := HPN.out (by omega)
                rw [hE] at HPR
                have HP := HPR
                clear HPN HPS hE HPR
                rcases HSS.out with ⟨hz, hc⟩ | ⟨hz, hc⟩
                · rw [hc] at HP
                  have hz2 : min (s.size : Int) 4000 = 4000 := by omega
                  have hz3 : ¬ (s.size : Int) < 4000 := by omega
                  clear hc hs
                  go_wp2_with (go_at_call 19; refine (HP.out _ (Below.refl _ _)).mono ?_; rintro e w2 ⟨rfl, hb2⟩)
                  go_ret
                  exact ⟨rfl, hBW.trans (hb2.mono hBW.size)⟩
                · rw [hc] at HP
                  have hz2 : min (s.size : Int) 4000 = (s.size : Int) := by omega
                  clear hc hs
                  go_wp2_with (go_at_call 19; refine (HP.out _ (Below.refl _ _)).mono ?_; rintro e w2 ⟨rfl, hb2⟩)
                  go_ret
                  exact ⟨rfl, hBW.trans (hb2.mono hBW.size)⟩
              · have d4 : decide (2 * (m : Int) ≤ n) = false := decide_eq_false (by omega)
                have d4' : ¬ 2 * (m : Int) ≤ n := by omega
                have hE := HPS.out (by omega)
                rw [hE.1, hE.2] at HPR
                have HP := HPR
                clear HPN HPS hE HPR
                rcases HSS.out with ⟨hz, hc⟩ | ⟨hz, hc⟩
                · rw [hc] at HP
                  have hz2 : min (s.size : Int) 4000 = 4000 := by omega
                  have hz3 : ¬ (s.size : Int) < 4000 := by omega
                  clear hc hs
                  go_wp2_with (go_at_call 19; refine (HP.out _ (Below.refl _ _)).mono ?_; rintro e w2 ⟨rfl, hb2⟩)
                  go_ret
                  exact ⟨rfl, hBW.trans (hb2.mono hBW.size)⟩
                · rw [hc] at HP
                  have hz2 : min (s.size : Int) 4000 = (s.size : Int) := by omega
                  clear hc hs
                  go_wp2_with (go_at_call 19; refine (HP.out _ (Below.refl _ _)).mono ?_; rintro e w2 ⟨rfl, hb2⟩)
                  go_ret
                  exact ⟨rfl, hBW.trans (hb2.mono hBW.size)⟩
      · have hki2 : ¬ (k : Int) < (k : Int) := by omega
        by_cases h1 : n < 1
        · have d1 : decide (n < 1) = true := decide_eq_true (by omega)
          have d1' : n < 1 := by omega
          have hE := HPN.out (by omega)
          rw [hE] at HPR
          have HP := HPR
          clear HPN HPS hE HPR
          rcases HSS.out with ⟨hz, hc⟩ | ⟨hz, hc⟩
          · rw [hc] at HP
            have hz2 : min (s.size : Int) 4000 = 4000 := by omega
            have hz3 : ¬ (s.size : Int) < 4000 := by omega
            clear hc hs
            go_wp2_with (go_at_call 19; refine (HP.out _ (Below.refl _ _)).mono ?_; rintro e w2 ⟨rfl, hb2⟩)
            go_ret
            exact ⟨rfl, hBW.trans (hb2.mono hBW.size)⟩
          · rw [hc] at HP
            have hz2 : min (s.size : Int) 4000 = (s.size : Int) := by omega
            clear hc hs
            go_wp2_with (go_at_call 19; refine (HP.out _ (Below.refl _ _)).mono ?_; rintro e w2 ⟨rfl, hb2⟩)
            go_ret
            exact ⟨rfl, hBW.trans (hb2.mono hBW.size)⟩
        · have d1 : decide (n < 1) = false := decide_eq_false (by omega)
          have d1' : ¬ n < 1 := by omega
          by_cases h2 : 16 < n
          · have d2 : decide (16 < n) = true := decide_eq_true (by omega)
            have d2' : 16 < n := by omega
            have hE := HPN.out (by omega)
            rw [hE] at HPR
            have HP := HPR
            clear HPN HPS hE HPR
            rcases HSS.out with ⟨hz, hc⟩ | ⟨hz, hc⟩
            · rw [hc] at HP
              have hz2 : min (s.size : Int) 4000 = 4000 := by omega
              have hz3 : ¬ (s.size : Int) < 4000 := by omega
              clear hc hs
              go_wp2_with (go_at_call 19; refine (HP.out _ (Below.refl _ _)).mono ?_; rintro e w2 ⟨rfl, hb2⟩)
              go_ret
              exact ⟨rfl, hBW.trans (hb2.mono hBW.size)⟩
            · rw [hc] at HP
              have hz2 : min (s.size : Int) 4000 = (s.size : Int) := by omega
              clear hc hs
              go_wp2_with (go_at_call 19; refine (HP.out _ (Below.refl _ _)).mono ?_; rintro e w2 ⟨rfl, hb2⟩)
              go_ret
              exact ⟨rfl, hBW.trans (hb2.mono hBW.size)⟩
          · have d2 : decide (16 < n) = false := decide_eq_false (by omega)
            have d2' : ¬ 16 < n := by omega
            by_cases h3 : n < (m : Int)
            · have d3 : decide (n < (m : Int)) = true := decide_eq_true (by omega)
              have d3' : n < (m : Int) := by omega
              have hE := HPN.out (by omega)
              rw [hE] at HPR
              have HP := HPR
              clear HPN HPS hE HPR
              rcases HSS.out with ⟨hz, hc⟩ | ⟨hz, hc⟩
              · rw [hc] at HP
                have hz2 : min (s.size : Int) 4000 = 4000 := by omega
                have hz3 : ¬ (s.size : Int) < 4000 := by omega
                clear hc hs
                go_wp2_with (go_at_call 19; refine (HP.out _ (Below.refl _ _)).mono ?_; rintro e w2 ⟨rfl, hb2⟩)
                go_ret
                exact ⟨rfl, hBW.trans (hb2.mono hBW.size)⟩
              · rw [hc] at HP
                have hz2 : min (s.size : Int) 4000 = (s.size : Int) := by omega
                clear hc hs
                go_wp2_with (go_at_call 19; refine (HP.out _ (Below.refl _ _)).mono ?_; rintro e w2 ⟨rfl, hb2⟩)
                go_ret
                exact ⟨rfl, hBW.trans (hb2.mono hBW.size)⟩
            · have d3 : decide (n < (m : Int)) = false := decide_eq_false (by omega)
              have d3' : ¬ n < (m : Int) := by omega
              by_cases h4 : 2 * (m : Int) ≤ n
              · have d4 : decide (2 * (m : Int) ≤ n) = true := decide_eq_true (by omega)
                have d4' : 2 * (m : Int) ≤ n := by omega
                have hE := HPN.out (by omega)
                rw [hE] at HPR
                have HP := HPR
                clear HPN HPS hE HPR
                rcases HSS.out with ⟨hz, hc⟩ | ⟨hz, hc⟩
                · rw [hc] at HP
                  have hz2 : min (s.size : Int) 4000 = 4000 := by omega
                  have hz3 : ¬ (s.size : Int) < 4000 := by omega
                  clear hc hs
                  go_wp2_with (go_at_call 19; refine (HP.out _ (Below.refl _ _)).mono ?_; rintro e w2 ⟨rfl, hb2⟩)
                  go_ret
                  exact ⟨rfl, hBW.trans (hb2.mono hBW.size)⟩
                · rw [hc] at HP
                  have hz2 : min (s.size : Int) 4000 = (s.size : Int) := by omega
                  clear hc hs
                  go_wp2_with (go_at_call 19; refine (HP.out _ (Below.refl _ _)).mono ?_; rintro e w2 ⟨rfl, hb2⟩)
                  go_ret
                  exact ⟨rfl, hBW.trans (hb2.mono hBW.size)⟩
              · have d4 : decide (2 * (m : Int) ≤ n) = false := decide_eq_false (by omega)
                have d4' : ¬ 2 * (m : Int) ≤ n := by omega
                have hE := HPS.out (by omega)
                rw [hE.1, hE.2] at HPR
                have HP := HPR
                clear HPN HPS hE HPR
                rcases HSS.out with ⟨hz, hc⟩ | ⟨hz, hc⟩
                · rw [hc] at HP
                  have hz2 : min (s.size : Int) 4000 = 4000 := by omega
                  have hz3 : ¬ (s.size : Int) < 4000 := by omega
                  clear hc hs
                  go_wp2_with (go_at_call 19; refine (HP.out _ (Below.refl _ _)).mono ?_; rintro e w2 ⟨rfl, hb2⟩)
                  go_ret
                  exact ⟨rfl, hBW.trans (hb2.mono hBW.size)⟩
                · rw [hc] at HP
                  have hz2 : min (s.size : Int) 4000 = (s.size : Int) := by omega
                  clear hc hs
                  go_wp2_with (go_at_call 19; refine (HP.out _ (Below.refl _ _)).mono ?_; rintro e w2 ⟨rfl, hb2⟩)
                  go_ret
                  exact ⟨rfl, hBW.trans (hb2.mono hBW.size)⟩
end Go.Proofs.Ytigameebcicgpaa
