/-
  The pieces of a journal gone through.
-/
import Derived.Test.YtfbponiiejanfaaJWalk2
import Derived.Test.YtfbponiiejanfaaJPieces
import Derived.Test.YtfbponiiejanfaaRange
import Derived.Deep.RegionHeld3
namespace Go.Proofs.Ytfbponiiejanfaa
open Go.RowKit Go.Shelf
attribute [local go_sem] Oper.semAt_some
set_option linter.unusedVariables false
set_option linter.unusedSimpArgs false

/-- A piece, as it is handed on. -/
abbrev encP (p : List UInt8) : Array Value := #[.string (txt p)]
theorem grown_below' {w w' : World} (h : Below w.heap.size w w') (row : Option Nat) : w.grownBy w' row := ⟨h.os, h.tape, h.output, h.size, fun k hk _ => h.block k hk⟩
theorem told_size (t : ByteArray) (h : J.told t.data.toList = true) : J.size t.data.toList + 9 ≤ t.size := by
  have := J.told_length h
  simpa using this
def strSize : Value → Nat
  | .string b => b.size
  | _ => 0
set_option maxRecDepth 100000 in
set_option maxHeartbeats 1000000 in
theorem jPiecesGoes (n : Nat) (hn : 1 ≤ n) (w : World) (B : Nat) (s : ByteArray) (hs : s.size ≤ maxLen) (hB : B < w.heap.size) (hc : w.cell? ⟨B, 0, none⟩ = some (.string s)) :
    Goes Fence.wide n Try.prog 35 #[.pointer (some ⟨B, 0, none⟩)] encP (Keeps (fun _ => False)) (J.pieces s.data.toList) w := by
  intro l J' Jx W hW hJ hJx hY h0
  refine callsIn_of_wp Try.func35 rfl trivial ?_ rfl
  simp only [Try.ntmps35, List.size_toArray, List.length_cons, List.length_nil, Nat.reduceAdd, Nat.reduceSub, Array.replicate_succ, Array.replicate_zero, List.push_toArray, List.append_toArray, List.nil_append, List.cons_append]
  have hcW : W.cell? ⟨B, 0, none⟩ = some (.string s) := (hW.cell (p := ⟨B, 0, none⟩) hB).trans hc
  clear hc
  gi_wp2
  gi_loopw [3] (fun r wr => ∃ (k : Nat) (t : ByteArray), r = .string t ∧ t.size ≤ s.size ∧ (J.pieces s.data.toList).drop k = J.pieces t.data.toList ∧ k ≤ (J.pieces s.data.toList).length ∧ J' k wr)
    (fun r _ => strSize r)
  case atStart => exact ⟨0, s, rfl, Nat.le_refl _, rfl, Nat.zero_le _, h0⟩
  case round =>
    obtain ⟨k, t, rfl, ht, hd, hk, hJs⟩ := hrel
    cases htd : J.told t.data.toList with
    | true =>
      have hsz := told_size t htd
      have hnext := J.pieces_yes htd
      have hget : (J.pieces s.data.toList)[k]? = some (t.data.toList.take (J.size t.data.toList + 9)) := by
        have := congrArg (·[0]?) (hd.trans hnext)
        simpa using this
      have hlt : k < (J.pieces s.data.toList).length := (List.getElem?_eq_some_iff.1 hget).1
      have hF : toldF t = (((J.size t.data.toList + 9 : Nat) : Int), true) := by rw [toldF, if_pos htd]
      have HT := Lib.hid (fun W => by have h := jTold t (by omega) W; rw [hF] at h; exact h : ∀ W : World, Calls Try.prog 36 #[.string t] W fun e w' => e = .returned (.tuple #[.int .i64 ((J.size t.data.toList + 9 : Nat) : Int), .bool true]) ∧ Below W.heap.size W w')
      have hdrop : (J.pieces s.data.toList).drop (k + 1) = J.pieces (t.extract (J.size t.data.toList + 9) t.size).data.toList := by
        have h1 : (J.pieces s.data.toList).drop (k + 1) = ((J.pieces s.data.toList).drop k).drop 1 := by rw [List.drop_drop]
        rw [h1, hd, hnext, List.drop_one, List.tail_cons, Lib.extract_data, List.take_of_length_le (by rw [List.length_drop]; simp)]
      have hpiece : txt (t.data.toList.take (J.size t.data.toList + 9)) = t.extract 0 (J.size t.data.toList + 9) := by
        rw [← txt_data (t.extract 0 _), Lib.extract_data, List.drop_zero, Nat.sub_zero]
      have hleft : (t.extract (J.size t.data.toList + 9) t.size).size = t.size - (J.size t.data.toList + 9) := by rw [ByteArray.size_extract]; omega
      have hq9 : 0 < J.size t.data.toList + 9 := by omega
      generalize J.size t.data.toList + 9 = q at *
      have hqi : (q : Int) ≤ (t.size : Int) := by omega
      clear hF hnext htd
      gi_wp2_with (refine ⟨trivial, ?_⟩; gi_at_call 36; refine (callsIn_wide.2 (HT.out _)).mono ?_; rintro e w1 ⟨rfl, hb1⟩
                   obtain ⟨fn, tmps, assign, body, hy, hR⟩ := hY k _ w1 hget (hJ _ _ _ none hJs (grown_below' hb1 none) (fun r h => by cases h))
                   dsimp only [encP] at hy
                   rw [hpiece] at hy)
      refine hR.mono ?_
      rintro e W3 (⟨rfl, hJ3, hk3⟩ | ⟨rfl, hJx3⟩)
      · gi_wp2
        go_roundw
        case rel => exact ⟨k + 1, t.extract q t.size, rfl, by omega, hdrop, by omega, hJ3⟩
        case measure => simp [strSize]; omega
      · gi_wp2
        refine bodyPost_ret (results_none rfl _ _ _) rfl ?_
        exact ⟨⟨_, rfl⟩, .inr ⟨k, hlt, hJx3⟩⟩
    | false =>
      have hF : toldF t = (0, false) := by rw [toldF, if_neg (by rw [htd]; simp)]
      have HT := Lib.hid (fun W => by have h := jTold t (by omega) W; rw [hF] at h; exact h : ∀ W : World, Calls Try.prog 36 #[.string t] W fun e w' => e = .returned (.tuple #[.int .i64 0, .bool false]) ∧ Below W.heap.size W w')
      have hend : k = (J.pieces s.data.toList).length := by
        have := hd.trans (J.pieces_no htd)
        rw [List.drop_eq_nil_iff] at this
        omega
      clear hF
      gi_wp2_with (refine ⟨trivial, ?_⟩; gi_at_call 36; refine (callsIn_wide.2 (HT.out _)).mono ?_; rintro e w1 ⟨rfl, hb1⟩)
      refine ⟨(fun f h => by cases h), ?_⟩
      gi_wp2
      refine bodyPost_ret (results_none rfl _ _ _) rfl ?_
      exact ⟨⟨_, rfl⟩, .inl (by rw [← hend]; exact hJ _ _ _ none hJs (grown_below' hb1 none) (fun r h => by cases h))⟩
end Go.Proofs.Ytfbponiiejanfaa
