/-
  Frames and their bytes are one to one.
-/
import Derived.Test.YtlcenfgnmmkcpaaDoorFrameLaw
namespace Go.Proofs.YtlcenfgnmmkcpaaDoor
open Go.RowKit Go.Shelf
set_option linter.unusedVariables false
set_option linter.unusedSimpArgs false
open Bytes

theorem drop_all {A B : List UInt8} {n : Nat} (h : A.length = n) : (A ++ B).drop n = B := by rw [← h, List.drop_left]
theorem take_all {A B : List UInt8} {n : Nat} (h : A.length = n) : (A ++ B).take n = A := by rw [← h, List.take_left]
theorem byte_lt (n : Nat) (h : n < 256) : (UInt8.ofNat n).toNat = n := by rw [UInt8.toNat_ofNat']; exact Nat.mod_eq_of_lt h
/-- The words of a frame's bytes, one behind the other. -/
theorem words_of (b0 b1 b2 b3 : UInt8) (p q r T : List UInt8) (hp : p.length = 4) (hq : q.length = 4) (hr : r.length = 4) :
    let l := b0 :: b1 :: b2 :: b3 :: (p ++ (q ++ (r ++ T)))
    l.drop 4 = p ++ (q ++ (r ++ T)) ∧ l.drop 8 = q ++ (r ++ T) ∧ l.drop 12 = r ++ T ∧ l.drop 16 = T := by
  intro l
  have h4 : l.drop 4 = p ++ (q ++ (r ++ T)) := rfl
  have h8 : l.drop 8 = q ++ (r ++ T) := by
    rw [show l.drop 8 = (l.drop 4).drop 4 from by rw [List.drop_drop]]; rw [h4, drop_all hp]
  have h12 : l.drop 12 = r ++ T := by
    rw [show l.drop 12 = (l.drop 8).drop 4 from by rw [List.drop_drop]]; rw [h8, drop_all hq]
  have h16 : l.drop 16 = T := by
    rw [show l.drop 16 = (l.drop 12).drop 4 from by rw [List.drop_drop]]; rw [h12, drop_all hr]
  exact ⟨h4, h8, h12, h16⟩
/-- A right frame's bytes: each part at its place. -/
theorem body_parts (f : Fr) (hr : f.Right) :
    at' f.body 0 = 72 ∧ ((at' f.body 1).toNat : Int) = f.wire ∧ ((at' f.body 2).toNat : Int) = f.kind ∧ ((at' f.body 3).toNat : Int) = 16 * f.src + f.dst ∧
    num f.body 4 = f.life ∧ num f.body 8 = f.seq ∧ num f.body 12 = f.ack ∧
    (f.wire = 1 → num f.body 16 = BitVec.ofNat 32 f.data.size ∧ f.body.drop 20 = f.data.data.toList) ∧
    (f.wire = 2 → num f.body 16 = f.hint ∧ num f.body 20 = BitVec.ofNat 32 f.data.size ∧ f.body.drop 24 = f.data.data.toList) := by
  obtain ⟨hw, hk, hs, hd, hz, hh⟩ := hr
  have pl := CrcM.put_length
  have e : f.body = 72 :: UInt8.ofNat f.wire.toNat :: UInt8.ofNat f.kind.toNat :: UInt8.ofNat (16 * f.src + f.dst).toNat :: (CrcM.put f.life ++ (CrcM.put f.seq ++ (CrcM.put f.ack ++ (((if f.wire = 1 then [] else CrcM.put f.hint) ++ CrcM.put (BitVec.ofNat 32 f.data.size)) ++ f.data.data.toList)))) := by
    simp only [Fr.body, Fr.head, List.cons_append, List.nil_append, List.append_assoc]
  obtain ⟨h4, h8, h12, h16⟩ := words_of 72 (UInt8.ofNat f.wire.toNat) (UInt8.ofNat f.kind.toNat) (UInt8.ofNat (16 * f.src + f.dst).toNat) (CrcM.put f.life) (CrcM.put f.seq) (CrcM.put f.ack) (((if f.wire = 1 then [] else CrcM.put f.hint) ++ CrcM.put (BitVec.ofNat 32 f.data.size)) ++ f.data.data.toList) (pl _) (pl _) (pl _)
  rw [← e] at h4 h8 h12 h16
  refine ⟨by rw [e]; rfl, ?_, ?_, ?_, ?_, ?_, ?_, ?_, ?_⟩
  · rw [e]; show ((UInt8.ofNat f.wire.toNat).toNat : Int) = _
    rw [byte_lt _ (by omega)]; omega
  · rw [e]; show ((UInt8.ofNat f.kind.toNat).toNat : Int) = _
    rw [byte_lt _ (by omega)]; omega
  · rw [e]; show ((UInt8.ofNat (16 * f.src + f.dst).toNat).toNat : Int) = _
    rw [byte_lt _ (by omega)]; omega
  · rw [num, h4, take_all (pl _), CrcM.get_put]
  · rw [num, h8, take_all (pl _), CrcM.get_put]
  · rw [num, h12, take_all (pl _), CrcM.get_put]
  · intro h1
    rw [if_pos h1, List.nil_append] at h16
    refine ⟨by rw [num, h16, take_all (pl _), CrcM.get_put], ?_⟩
    rw [show f.body.drop 20 = (f.body.drop 16).drop 4 from by rw [List.drop_drop], h16, drop_all (pl _)]
  · intro h2
    rw [if_neg (by omega), List.append_assoc] at h16
    have h20 : f.body.drop 20 = CrcM.put (BitVec.ofNat 32 f.data.size) ++ f.data.data.toList := by
      rw [show f.body.drop 20 = (f.body.drop 16).drop 4 from by rw [List.drop_drop], h16, drop_all (pl _)]
    refine ⟨by rw [num, h16, take_all (pl _), CrcM.get_put], by rw [num, h20, take_all (pl _), CrcM.get_put], ?_⟩
    rw [show f.body.drop 24 = (f.body.drop 20).drop 4 from by rw [List.drop_drop], h20, drop_all (pl _)]
theorem body_one (f : Fr) (hr : f.Right) : one f.body = decide (f.wire = 1) := by
  obtain ⟨_, h1, _⟩ := body_parts f hr
  rcases hr.1 with h | h
  · rw [h, decide_eq_true rfl, one]
    have : at' f.body 1 = 1 := by apply UInt8.toNat_inj.1; show _ = 1; omega
    rw [this]; rfl
  · rw [h, one]
    have : at' f.body 1 = 2 := by apply UInt8.toNat_inj.1; show _ = 2; omega
    rw [this]; rfl
theorem body_ahead (f : Fr) (hr : f.Right) : Bytes.ahead f.body = if f.wire = 1 then 20 else 24 := by
  rw [Bytes.ahead, body_one f hr]
  rcases hr.1 with h | h <;> rw [h] <;> rfl
theorem body_length (f : Fr) (hr : f.Right) : f.body.length = (if f.wire = 1 then 20 else 24) + f.data.size := by
  rw [Fr.body, List.length_append, f.head_length hr]; simp
theorem fr_body (f : Fr) (hr : f.Right) : fr f.body = f := by
  obtain ⟨_, h1, h2, h3, h4, h5, h6, h7, h8⟩ := body_parts f hr
  obtain ⟨hw, hk, hs, hd, hz, hh⟩ := id hr
  have ho := body_one f hr
  have ha := body_ahead f hr
  refine Fr.ext' h1 h2 ?_ ?_ h4 h5 h6 ?_ ?_
  · show ((at' f.body 3).toNat : Int) / 16 = f.src
    rw [h3]; omega
  · show ((at' f.body 3).toNat : Int) % 16 = f.dst
    rw [h3]; omega
  · show (if one f.body = true then 0 else num f.body 16) = f.hint
    rw [ho]
    rcases hw with h | h
    · rw [if_pos (by rw [h]; rfl), hh h]
    · rw [if_neg (by rw [h]; decide), (h8 h).1]
  · show txt (f.body.drop (Bytes.ahead f.body)) = f.data
    rw [ha]
    rcases hw with h | h
    · rw [if_pos h, (h7 h).2, txt_data]
    · rw [if_neg (by omega), (h8 h).2.2, txt_data]
theorem body_known (f : Fr) (hr : f.Right) : Bytes.known f.body = true := by
  obtain ⟨_, h1, _⟩ := body_parts f hr
  rw [Bytes.known, h1]
  rcases hr.1 with h | h <;> rw [h] <;> rfl
theorem good_body (f : Fr) (hr : f.Right) : good f.body = true ∧ old f.body = false := by
  obtain ⟨h0, h1, h2, h3, h4, h5, h6, h7, h8⟩ := body_parts f hr
  have hk := body_known f hr
  have hl := body_length f hr
  have ha := body_ahead f hr
  have hz := hr.2.2.2.2.1
  have h2' : 2 ≤ f.body.length := by rw [hl]; split <;> omega
  refine ⟨?_, by rw [old, hk]; simp⟩
  rw [good, fr_body f hr, decide_eq_true hr, long, hk, h0, decide_eq_true h2', decide_eq_true (show Bytes.ahead f.body ≤ f.body.length by rw [ha, hl]; omega)]
  have hn : (num f.body (Bytes.ahead f.body - 4)).toNat = f.body.length - Bytes.ahead f.body := by
    rw [ha, hl]
    rcases hr.1 with h | h
    · rw [if_pos h, (h7 h).1, ofNat_toNat _ (by omega)]; omega
    · rw [if_neg (by omega), (h8 h).2.1, ofNat_toNat _ (by omega)]; omega
  rw [decide_eq_true hn]; rfl
theorem decF_body (f : Fr) (hr : f.Right) : decF (txt (CrcM.withSum f.body)) = (f, 0) := by
  have hb : openB (txt (CrcM.withSum f.body)) = true := by
    rw [openB, txt_toList, CrcM.opened_seal, txt_size, CrcM.seal_length]; simp
  have ht : (openT (txt (CrcM.withSum f.body))).data.toList = f.body := by
    rw [openT, if_pos hb, Lib.extract_data, txt_size, txt_toList, List.drop_zero, Nat.sub_zero, CrcM.seal_take]
  obtain ⟨hg, ho⟩ := good_body f hr
  rw [decF, ht, hb, ho, hg, fr_body f hr]
  simp
/-- A list by the bytes at its places. -/
theorem list_four (l : List UInt8) (h : 4 ≤ l.length) : l = at' l 0 :: at' l 1 :: at' l 2 :: at' l 3 :: l.drop 4 := by
  match l, h with
  | a :: b :: c :: d :: t, _ => rfl
theorem next_four (l : List UInt8) (o : Nat) (h : o + 4 ≤ l.length) : l.drop o = CrcM.put (num l o) ++ l.drop (o + 4) := by
  rw [num, CrcM.put_get _ (by rw [List.length_take, List.length_drop]; omega)]
  rw [show l.drop (o + 4) = (l.drop o).drop 4 from by rw [List.drop_drop], List.take_append_drop]
theorem byte_self (x : UInt8) : UInt8.ofNat ((x.toNat : Int)).toNat = x := by
  rw [Int.toNat_natCast]; exact UInt8.ofNat_toNat
theorem body_fr (l : List UInt8) (hg : good l = true) : (fr l).body = l := by
  simp only [good, long, Bool.and_eq_true, decide_eq_true_eq] at hg
  obtain ⟨⟨⟨⟨⟨h2, h0⟩, hk⟩, ha⟩, hn⟩, hr⟩ := hg
  have h0' : at' l 0 = 72 := by simpa using h0
  have hb : ∀ (P : Prop), (one l = true → Bytes.ahead l = 20 → P) → (one l = false → Bytes.ahead l = 24 → P) → P := by
    intro P p q
    cases ho : one l with
    | true => exact p ho (by rw [Bytes.ahead, ho]; rfl)
    | false => exact q ho (by rw [Bytes.ahead, ho]; rfl)
  have hlen : 20 ≤ l.length := hb _ (fun _ h => by omega) (fun _ h => by omega)
  have hsz : (fr l).data.size = l.length - Bytes.ahead l := by
    show (txt (l.drop (Bytes.ahead l))).size = _
    rw [txt_size, List.length_drop]
  have hw1 : (fr l).wire = 1 ↔ one l = true := by
    show ((at' l 1).toNat : Int) = 1 ↔ _
    rw [one, beq_iff_eq]
    constructor
    · intro h; apply UInt8.toNat_inj.1; show _ = 1; omega
    · intro h; rw [h]; rfl
  have hnum : BitVec.ofNat 32 (fr l).data.size = num l (Bytes.ahead l - 4) := by
    rw [hsz, ← hn, BitVec.ofNat_toNat, BitVec.setWidth_eq]
  have hdata : (fr l).data.data.toList = l.drop (Bytes.ahead l) := by
    show (txt (l.drop (Bytes.ahead l))).data.toList = _
    rw [txt_toList]
  have hline : UInt8.ofNat (16 * (fr l).src + (fr l).dst).toNat = at' l 3 := by
    show UInt8.ofNat (16 * (((at' l 3).toNat : Int) / 16) + ((at' l 3).toNat : Int) % 16).toNat = _
    rw [show 16 * (((at' l 3).toNat : Int) / 16) + ((at' l 3).toNat : Int) % 16 = ((at' l 3).toNat : Int) by omega, byte_self]
  rw [Fr.body, Fr.head, hline, hnum, hdata]
  show [72, UInt8.ofNat ((at' l 1).toNat : Int).toNat, UInt8.ofNat ((at' l 2).toNat : Int).toNat, at' l 3] ++ (CrcM.put (num l 4) ++ (CrcM.put (num l 8) ++ (CrcM.put (num l 12) ++ ((if (fr l).wire = 1 then [] else CrcM.put (if one l = true then 0 else num l 16)) ++ CrcM.put (num l (Bytes.ahead l - 4)))))) ++ l.drop (Bytes.ahead l) = l
  rw [byte_self, byte_self, ← h0']
  conv => rhs; rw [list_four l (by omega), next_four l 4 (by omega), next_four l 8 (by omega), next_four l 12 (by omega)]
  refine hb _ (fun ho ha' => ?_) (fun ho ha' => ?_)
  · rw [if_pos (hw1.2 ho), ha', next_four l 16 (by omega)]
    simp only [List.cons_append, List.nil_append, List.append_assoc]
  · rw [if_neg (fun h => by rw [hw1.1 h] at ho; cases ho), if_neg (by rw [ho]; decide), ha', next_four l 16 (by omega), next_four l 20 (by omega)]
    simp only [List.cons_append, List.nil_append, List.append_assoc]
/-- What is opened, sealed again. -/
theorem seal_openT (s : ByteArray) (hb : openB s = true) : txt (CrcM.withSum (openT s).data.toList) = s := by
  have hb' := hb
  simp only [openB, CrcM.opened, Bool.and_eq_true, decide_eq_true_eq, beq_iff_eq] at hb'
  obtain ⟨h4, _, h⟩ := hb'
  have hl : s.data.toList.length = s.size := by simp
  have ht : (openT s).data.toList = s.data.toList.take (s.size - 4) := by
    rw [openT, if_pos hb, Lib.extract_data, List.drop_zero, Nat.sub_zero]
  rw [ht, CrcM.withSum, ← hl, ← h, List.take_append_drop, txt_data]
/-- What Decode answers: nothing with an error, or the frame whose bytes these are. -/
theorem decF_back (s : ByteArray) : (decF s).2 ≠ 0 ∧ (decF s).1 = Fr.nil ∨ (decF s).2 = 0 ∧ (decF s).1.Right ∧ txt (CrcM.withSum (decF s).1.body) = s := by
  rw [decF]
  split
  · exact .inl ⟨by decide, rfl⟩
  · rename_i hb
    have hb' : openB s = true := by cases h : openB s; exact absurd h hb; rfl
    split
    · exact .inl ⟨by decide, rfl⟩
    · split
      · rename_i hg
        refine .inr ⟨rfl, ?_, ?_⟩
        · simp only [good, Bool.and_eq_true, decide_eq_true_eq] at hg; exact hg.2
        · show txt (CrcM.withSum (fr (openT s).data.toList).body) = s
          rw [body_fr _ hg, seal_openT s hb']
      · exact .inl ⟨by decide, rfl⟩
theorem frameGuardN (f g : Fr) (x y : Operand) (w : World) : (eqGuard .neq 24 x y f.val g.val).run Tryd.prog w = .ok () w := run_eqGuard_agg w _ _ _ _ _ _ (by kernel_rfl)
theorem frameNeq (f g : Fr) (w : World) : (binOp .neq 24 f.val g.val).run Tryd.prog w = .ok (.bool (!decide (f = g))) w := by
  have h := frameEql f g w
  unfold Fr.val at h ⊢
  rw [run_eql_struct] at h
  rw [run_neq_struct]
  revert h
  cases (Op.equalIn 10000 24 (.agg f.cells) (.agg g.cells)).run Tryd.prog w <;> simp [Result.andThen]
end Go.Proofs.YtlcenfgnmmkcpaaDoor
