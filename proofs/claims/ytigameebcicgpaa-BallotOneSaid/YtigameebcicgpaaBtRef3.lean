/-
  The document's Decided: walked.
-/
import Derived.Test.YtigameebcicgpaaBtRef2
namespace Go.Proofs.Ytigameebcicgpaa
open Go.RowKit Go.Shelf
attribute [local go_sem] Oper.semAt_some
set_option linter.unusedVariables false
set_option linter.unusedSimpArgs false

/-- How many of the first j voted so, in a ballot. -/
def Bt.cntTo (l : List Vt) (x : Vt) (j : Nat) : Nat := (l.take j).countP fun v => decide (0 < v.bal ∧ v.bal = x.bal ∧ v.val' = x.val')
theorem Bt.cntTo_succ (l : List Vt) (x : Vt) (j : Nat) (hj : j < l.length) : Bt.cntTo l x (j + 1) = Bt.cntTo l x j + (if 0 < l[j].bal ∧ l[j].bal = x.bal ∧ l[j].val' = x.val' then 1 else 0) := by
  rw [Bt.cntTo, List.take_succ_eq_append_getElem hj, List.countP_append, Bt.cntTo]
  congr 1
  rw [List.countP_cons, List.countP_nil]
  by_cases h : 0 < l[j].bal ∧ l[j].bal = x.bal ∧ l[j].val' = x.val'
  · simp [h]
  · rw [if_neg h, decide_eq_false h]; rfl
theorem Bt.cntTo_le (l : List Vt) (x : Vt) (j : Nat) : Bt.cntTo l x j ≤ j := by
  rw [Bt.cntTo]
  exact Nat.le_trans (List.countP_le_length) (by rw [List.length_take]; omega)
theorem Bt.wins_iff (l : List Vt) (x : Vt) : Bt.wins l x = decide (l.length < 2 * Bt.cntTo l x l.length) := by
  unfold Bt.wins Bt.cntTo Bt.count
  rw [List.take_length]
  by_cases h0 : 0 < x.bal
  · have e : (fun v : Vt => decide (0 < v.bal ∧ v.bal = x.bal ∧ v.val' = x.val')) = fun v => decide (v.bal = x.bal ∧ v.val' = x.val') := by
      funext v
      exact decide_eq_decide.2 ⟨fun h => h.2, fun h => ⟨by rw [h.1]; exact h0, h⟩⟩
    rw [e]
    exact decide_eq_decide.2 ⟨fun h => h.2, fun h => ⟨h0, h⟩⟩
  · have e : (l.countP fun v : Vt => decide (0 < v.bal ∧ v.bal = x.bal ∧ v.val' = x.val')) = 0 := by
      rw [List.countP_eq_zero]
      intro v _ h
      rw [decide_eq_true_eq] at h
      omega
    rw [e]
    exact decide_eq_decide.2 ⟨fun h => absurd h.1 h0, fun h => by omega⟩
theorem Bt.find_at (l : List Vt) (k : Nat) (hk : k < l.length) (hno : ∀ j (h : j < l.length), j < k → Bt.wins l l[j] = false) (hy : Bt.wins l l[k] = true) : l.find? (Bt.wins l) = some l[k] := by
  rw [List.find?_eq_some_iff_getElem]
  exact ⟨hy, k, hk, rfl, fun j hj => by rw [hno j (by omega) hj]; rfl⟩
theorem Bt.find_none (l : List Vt) (hno : ∀ j (h : j < l.length), Bt.wins l l[j] = false) : l.find? (Bt.wins l) = none := by
  rw [List.find?_eq_none]
  intro x hx
  obtain ⟨j, hj, rfl⟩ := List.getElem_of_mem hx
  rw [hno j hj]; simp
theorem bytes_eq (a b : ByteArray) : (a.toList = b.toList) ↔ a = b := by
  rw [ByteArray.toList_eq, ByteArray.toList_eq]
  obtain ⟨⟨x⟩⟩ := a
  obtain ⟨⟨y⟩⟩ := b
  constructor
  · intro h; simp only at h; rw [h]
  · intro h; rw [h]
set_option maxRecDepth 100000 in
set_option maxHeartbeats 2000000 in
theorem refDecided (v0 : Value) (l : List Vt) (w : World) (hT : VtsR w v0 l) (hl : l.length ≤ 1000000) (hsz : ∀ v ∈ l, v.val'.size ≤ 1000000) :
    Calls Try.prog 22 #[v0] w fun e w' => e = .returned (.tuple #[.string (Bt.decS l), .bool (Bt.decB l), .int .i64 (Bt.decE l)]) ∧ Below w.heap.size w w' := by
  obtain ⟨a0, c0, rfl⟩ := hT.form
  have HE := Lib.hid (show Bt.decE l = if 1 ≤ l.length ∧ l.length ≤ 16 then if ∀ v ∈ l, Bt.Right v then 0 else 2 else 81 from rfl)
  have HW := Lib.hid (show Bt.winner l = if Bt.decE l = 0 then l.find? (Bt.wins l) else none from rfl)
  have HS := Lib.hid (show Bt.decS l = ((Bt.winner l).map Vt.val').getD Bt.none' from rfl)
  have HB := Lib.hid (show Bt.decB l = (Bt.winner l).isSome from rfl)
  obtain ⟨len, hlen⟩ : ∃ len, l.length = len := ⟨_, rfl⟩
  have HT := Lib.hid hT
  have HL := Lib.hid hlen
  have HSZ := Lib.hid hsz
  rw [hlen] at hl HE ⊢
  clear hT hlen hsz
  by_cases h1 : (len : Int) < 1
  · have d1 : decide ((len : Int) < 1) = true := decide_eq_true (by omega)
    have d1' : (len : Int) < 1 := by omega
    have hE : Bt.decE l = 81 := by rw [HE.out, if_neg (by omega)]
    have hW : Bt.winner l = none := by rw [HW.out, hE]; rfl
    have hS : Bt.decS l = ⟨#[]⟩ := by rw [HS.out, hW]; rfl
    have hB : Bt.decB l = false := by rw [HB.out, hW]; rfl
    rw [hE, hS, hB]
    clear HE HS HW HB hE hS hW hB
    go_enter Try.func22, Try.ntmps22
    go_wp2
    go_ret3
    exact ⟨rfl, Below.refl _ _⟩
  · have d1 : decide ((len : Int) < 1) = false := decide_eq_false (by omega)
    have d1' : ¬ (len : Int) < 1 := by omega
    by_cases h2 : 16 < (len : Int)
    · have d2 : decide (16 < (len : Int)) = true := decide_eq_true (by omega)
      have d2' : 16 < (len : Int) := by omega
      have hE : Bt.decE l = 81 := by rw [HE.out, if_neg (by omega)]
      have hW : Bt.winner l = none := by rw [HW.out, hE]; rfl
      have hS : Bt.decS l = ⟨#[]⟩ := by rw [HS.out, hW]; rfl
      have hB : Bt.decB l = false := by rw [HB.out, hW]; rfl
      rw [hE, hS, hB]
      clear HE HS HW HB hE hS hW hB
      go_enter Try.func22, Try.ntmps22
      go_wp2
      go_ret3
      exact ⟨rfl, Below.refl _ _⟩
    · have d2 : decide (16 < (len : Int)) = false := decide_eq_false (by omega)
      have d2' : ¬ 16 < (len : Int) := by omega
      have HG := Lib.hid (show 1 ≤ len ∧ len ≤ 16 by omega)
      have hl16 : len ≤ 16 := by omega
      clear h1 h2 hl
      go_enter Try.func22, Try.ntmps22
      go_wp2
      go_loopw [5] (fun i wr => ∃ k : Nat, k ≤ len ∧ i = .int .i64 (k : Int) ∧ (∀ j (h : j < l.length), j < k → Bt.Right l[j]) ∧ Below w.heap.size w wr) (fun i _ => len - (intOf i).toNat)
      case atStart => exact ⟨0, Nat.zero_le _, rfl, (fun j h hj => absurd hj (Nat.not_lt_zero _)), Below.refl _ _⟩
      case round =>
        obtain ⟨k, hk, rfl, hte, hBW⟩ := hrel
        have HTE := Lib.hid hte
        clear hte
        by_cases hlt : k < len
        · have hkl : k < l.length := by rw [HL.out]; exact hlt
          obtain ⟨g, c', e1, hx⟩ := HT.out.at' k hkl
          simp only [Value.slice.injEq] at e1
          obtain ⟨rfl, -, -⟩ := e1
          have hki : (k : Int) < (len : Int) := by omega
          obtain ⟨q0, q1, q2⟩ := hx wr hBW
          have HRT := Lib.hid (fun W => refRight l[k] (HSZ.out _ (List.getElem_mem hkl)) W)
          have hmem := List.getElem_mem hkl
          clear hx
          by_cases hr : Bt.Right l[k]
          · have HN := Lib.hid (fun (j : Nat) (h : j < l.length) (hj : j < k + 1) => show Bt.Right l[j] from by
              by_cases e : j = k
              · subst e; exact hr
              · exact HTE.out j h (by omega))
            rw [decide_eq_true hr] at HRT
            clear hr hmem
            generalize l[k] = x at *
            obtain ⟨p, c, s⟩ := x
            unfold Vt.val at HRT
            dsimp only at q0 q1 q2 HRT
            go_wp2_with (go_at_call 17; refine (HRT.out _).mono ?_; rintro e w1 ⟨rfl, hb1⟩; have hbb := hBW.trans (hb1.mono hBW.size))
            go_roundw
            case rel => exact ⟨k + 1, by omega, by go_num, HN.out, hbb⟩
            case measure => simp [intOf]; omega
          · have hE : Bt.decE l = 2 := by rw [HE.out, if_pos HG.out, if_neg (fun h => hr (h _ hmem))]
            have hW : Bt.winner l = none := by rw [HW.out, hE]; rfl
            have hS : Bt.decS l = ⟨#[]⟩ := by rw [HS.out, hW]; rfl
            have hB : Bt.decB l = false := by rw [HB.out, hW]; rfl
            have HEE := Lib.hid (And.intro hE (And.intro hS hB))
            rw [decide_eq_false hr] at HRT
            clear hr hmem hE hS hW hB HE HS HW HB
            generalize l[k] = x at *
            obtain ⟨p, c, s⟩ := x
            unfold Vt.val at HRT
            dsimp only at q0 q1 q2 HRT
            go_wp2_with (go_at_call 17; refine (HRT.out _).mono ?_; rintro e w1 ⟨rfl, hb1⟩)
            go_ret3
            exact ⟨by rw [HEE.out.1, HEE.out.2.1, HEE.out.2.2]; rfl, hBW.trans (hb1.mono hBW.size)⟩
        · obtain rfl : k = len := by omega
          have hall : ∀ v ∈ l, Bt.Right v := fun v hv => by
            obtain ⟨j, hj, rfl⟩ := List.getElem_of_mem hv
            exact HTE.out j hj (by have := HL.out; omega)
          have hE : Bt.decE l = 0 := by rw [HE.out, if_pos HG.out, if_pos hall]
          have hW : Bt.winner l = l.find? (Bt.wins l) := by rw [HW.out, hE]; rfl
          have HEE := Lib.hid hE
          have HWW := Lib.hid hW
          clear hE hW HE HW hall HTE
          go_wp2
          go_loopw [7] (fun i wq => ∃ i' : Nat, i' ≤ k ∧ i = .int .i64 (i' : Int) ∧ (∀ j (h : j < l.length), j < i' → Bt.wins l l[j] = false) ∧ Below w.heap.size w wq) (fun i _ => k - (intOf i).toNat)
          case atStart => exact ⟨0, Nat.zero_le _, rfl, (fun j h hj => absurd hj (Nat.not_lt_zero _)), hBW⟩
          case round =>
            obtain ⟨i', hi', rfl, hno, hBQ⟩ := hrel
            have HNO := Lib.hid hno
            clear hno
            by_cases hil : i' < k
            · have hikl : i' < l.length := by rw [HL.out]; exact hil
              obtain ⟨g, c', e1, hx⟩ := HT.out.at' i' hikl
              simp only [Value.slice.injEq] at e1
              obtain ⟨rfl, -, -⟩ := e1
              have hii : (i' : Int) < (k : Int) := by omega
              have HX := Lib.hid hx
              have HWI := Lib.hid (Bt.wins_iff l l[i'])
              have HCN := Lib.hid (fun j hj => Bt.cntTo_succ l l[i'] j hj)
              have HCL := Lib.hid (fun j => Bt.cntTo_le l l[i'] j)
              have HFA := Lib.hid (fun hy => Bt.find_at l i' hikl HNO.out hy)
              have HNX := Lib.hid (fun (hf : Bt.wins l l[i'] = false) (j : Nat) (h : j < l.length) (hj : j < i' + 1) => show Bt.wins l l[j] = false from by
                by_cases e : j = i'
                · subst e; exact hf
                · exact HNO.out j h (by omega))
              clear hx
              have hkk : k ≤ 16 := hl16
              go_wp2
              go_loopw [8, 9] (fun kv j wz => ∃ j' : Nat, j' ≤ k ∧ j = .int .i64 (j' : Int) ∧ kv = .int .i64 ((Bt.cntTo l l[i'] j' : Nat) : Int) ∧ Below w.heap.size w wz) (fun _ j _ => k - (intOf j).toNat)
              case atStart => exact ⟨0, Nat.zero_le _, rfl, rfl, hBQ⟩
              case round =>
                obtain ⟨j', hj', rfl, rfl, hBZ⟩ := hrel
                by_cases hjl : j' < k
                · have hjkl : j' < l.length := by rw [HL.out]; exact hjl
                  obtain ⟨g2, c2, e2, hy⟩ := HT.out.at' j' hjkl
                  simp only [Value.slice.injEq, Option.some.injEq, Addr.mk.injEq, and_true] at e2
                  obtain ⟨rfl, -, -⟩ := e2
                  have hji : (j' : Int) < (k : Int) := by omega
                  obtain ⟨q0, q1, q2⟩ := HX.out wr hBZ
                  obtain ⟨y0, y1, y2⟩ := hy wr hBZ
                  have hcn := HCN.out j' hjkl
                  have hcl := HCL.out j'
                  have HCN2 := Lib.hid hcn
                  clear hy hcn
                  generalize hcv : Bt.cntTo l l[i'] j' = cv at *
                  have hwc : IntKind.i64.wrap ((cv : Int) + 1) = (cv : Int) + 1 := IntWalk.i64_in _ (by omega)
                  have HEND := Lib.hid (fun (z : Nat) (hz : cv + (if 0 < l[j'].bal ∧ l[j'].bal = l[i'].bal ∧ l[j'].val' = l[i'].val' then 1 else 0) = z) => show Bt.cntTo l l[i'] (j' + 1) = z from by rw [HCN2.out]; exact hz)
                  clear hcv HCN2
                  by_cases k1 : 0 < l[j'].bal
                  · by_cases k2 : l[j'].bal = l[i'].bal
                    · by_cases k3 : l[j'].val' = l[i'].val'
                      · have HZ := Lib.hid (HEND.out (cv + 1) (by rw [if_pos ⟨k1, k2, k3⟩]))
                        rw [← k2] at q1
                        rw [← k3] at q2
                        have m1 : decide ((0 : Int) < (l[j'].bal : Int)) = true := decide_eq_true (by omega)
                        have m1' : (0 : Int) < (l[j'].bal : Int) := by omega
                        clear HEND HWI HFA HNX HCN HCL k2 k3 k1
                        generalize (l[j'].bal : Int) = b1 at *
                        generalize l[j'].val' = s1 at *
                        go_wp2
                        go_quiet (fail)
                        go_wp2
                        go_roundw
                        case rel => exact ⟨j' + 1, by omega, by go_num, by rw [HZ.out]; go_num, drewN_below hBZ _⟩
                        case measure => simp [intOf]; omega
                      · have HZ := Lib.hid (HEND.out cv (by rw [if_neg (fun h => k3 h.2.2)]; rfl))
                        rw [← k2] at q1
                        have m1 : decide ((0 : Int) < (l[j'].bal : Int)) = true := decide_eq_true (by omega)
                        have m1' : (0 : Int) < (l[j'].bal : Int) := by omega
                        have m3 : ¬ l[j'].val'.toList = l[i'].val'.toList := fun h => k3 ((bytes_eq _ _).1 h)
                        have m4 : (l[j'].val'.toList == l[i'].val'.toList) = false := beq_eq_false_iff_ne.2 m3
                        clear HEND HWI HFA HNX HCN HCL k2 k3 k1
                        generalize (l[j'].bal : Int) = b1 at *
                        generalize l[j'].val' = s1 at *
                        generalize l[i'].val' = s2 at *
                        go_wp2
                        go_quiet (fail)
                        go_wp2
                        go_roundw
                        case rel => exact ⟨j' + 1, by omega, by go_num, by rw [HZ.out], drewN_below hBZ _⟩
                        case measure => simp [intOf]; omega
                    · have HZ := Lib.hid (HEND.out cv (by rw [if_neg (fun h => k2 h.2.1)]; rfl))
                      have m1 : decide ((0 : Int) < (l[j'].bal : Int)) = true := decide_eq_true (by omega)
                      have m1' : (0 : Int) < (l[j'].bal : Int) := by omega
                      have m3 : ¬ (l[j'].bal : Int) = (l[i'].bal : Int) := by omega
                      have m4 : ((l[j'].bal : Int) == (l[i'].bal : Int)) = false := beq_eq_false_iff_ne.2 m3
                      clear HEND HWI HFA HNX HCN HCL k2 k1
                      generalize (l[j'].bal : Int) = b1 at *
                      generalize (l[i'].bal : Int) = b2 at *
                      go_wp2
                      go_quiet (fail)
                      go_wp2
                      go_roundw
                      case rel => exact ⟨j' + 1, by omega, by go_num, by rw [HZ.out], drewN_below hBZ _⟩
                      case measure => simp [intOf]; omega
                  · have HZ := Lib.hid (HEND.out cv (by rw [if_neg (fun h => k1 h.1)]; rfl))
                    have m1 : decide ((0 : Int) < (l[j'].bal : Int)) = false := decide_eq_false (by omega)
                    have m1' : ¬ (0 : Int) < (l[j'].bal : Int) := by omega
                    clear HEND HWI HFA HNX HCN HCL k1
                    generalize (l[j'].bal : Int) = b1 at *
                    go_wp2
                    go_quiet (fail)
                    go_wp2
                    go_roundw
                    case rel => exact ⟨j' + 1, by omega, by go_num, by rw [HZ.out], drewN_below hBZ _⟩
                    case measure => simp [intOf]; omega
                · obtain rfl : j' = k := by omega
                  obtain ⟨q0, q1, q2⟩ := HX.out wr hBZ
                  have hwi := HWI.out
                  rw [HL.out] at hwi
                  have hcl := HCL.out j'
                  obtain ⟨cv, hcv⟩ : ∃ cv, Bt.cntTo l l[i'] j' = cv := ⟨_, rfl⟩
                  rw [hcv] at hwi hcl ⊢
                  have hw2 : IntKind.i64.wrap (2 * (cv : Int)) = 2 * (cv : Int) := IntWalk.i64_in _ (by omega)
                  clear hcv HCN HCL
                  by_cases hwin : j' < 2 * cv
                  · rw [decide_eq_true hwin] at hwi
                    have hf := HFA.out hwi
                    have hS : Bt.decS l = l[i'].val' := by rw [HS.out, HWW.out, hf]; rfl
                    have hB : Bt.decB l = true := by rw [HB.out, HWW.out, hf]; rfl
                    have HAA := Lib.hid (And.intro hS hB)
                    have m1 : decide ((j' : Int) < 2 * (cv : Int)) = true := decide_eq_true (by omega)
                    have m1' : (j' : Int) < 2 * (cv : Int) := by omega
                    clear hwi hf hS hB HFA HNX HWI hwin HS HB
                    generalize l[i'].val' = s2 at *
                    go_wp2
                    go_ret3
                    exact ⟨by rw [HAA.out.1, HAA.out.2, HEE.out]; rfl, hBZ⟩
                  · rw [decide_eq_false hwin] at hwi
                    have HNN := Lib.hid (HNX.out hwi)
                    have m1 : decide ((j' : Int) < 2 * (cv : Int)) = false := decide_eq_false (by omega)
                    have m1' : ¬ (j' : Int) < 2 * (cv : Int) := by omega
                    clear hwi HFA HNX HWI hwin
                    go_wp2
                    go_roundw
                    case rel => exact ⟨i' + 1, by omega, by go_num, HNN.out, hBZ⟩
                    case measure => simp [intOf]; omega
            · obtain rfl : i' = k := by omega
              have hf := Bt.find_none l (fun j hj => HNO.out j hj (by have := HL.out; omega))
              have hS : Bt.decS l = ⟨#[]⟩ := by rw [HS.out, HWW.out, hf]; rfl
              have hB : Bt.decB l = false := by rw [HB.out, HWW.out, hf]; rfl
              have HAA := Lib.hid (And.intro hS hB)
              clear hf hS hB HS HB
              go_wp2
              go_ret3
              exact ⟨by rw [HAA.out.1, HAA.out.2, HEE.out]; rfl, hBQ⟩
end Go.Proofs.Ytigameebcicgpaa
