/-
  The law BallotOne: walked (written by gen_btone.py).
-/
import Derived.Test.YtigameebcicgpaaBtOneStart
import Derived.Test.YtigameebcicgpaaBtActs
import Derived.Deep.CutRange
import Derived.Deep.DeepCutAuto
import Derived.Deep.CutBlock
import Derived.OrdersHeld
namespace Go.Proofs.Ytigameebcicgpaa
open Go.RowKit Go.Shelf
attribute [local go_sem] Oper.semAt_some
set_option linter.unusedVariables false
set_option linter.unusedSimpArgs false

namespace One
theorem acts_at {w : World} {v : Value} {l : List (Int × Int × Int)} (h : BActs w v l) (k : Nat) (hk : k < l.length) : ∃ a c, v = .slice (some a) l.length c ∧ ∀ W, Below w.heap.size w W →
    W.cell? (a.add (k * 3)) = some (.int .i64 l[k].1) ∧ W.cell? ⟨(a.add (k * 3)).block, (a.add (k * 3)).off + 1, none⟩ = some (.int .i64 l[k].2.1) ∧ W.cell? ⟨(a.add (k * 3)).block, (a.add (k * 3)).off + 2, none⟩ = some (.int .i64 l[k].2.2) := by
  rcases h with ⟨rfl, rfl⟩ | ⟨a, c, rfl, hx⟩
  · simp at hk
  · refine ⟨a, c, rfl, fun W hb => ?_⟩
    obtain ⟨h0, h1, h2⟩ := hx k hk
    have hbl : ∀ j, (a.add j).block < w.heap.size := fun j => by rw [add_block]; exact cell_block h0
    refine ⟨?_, ?_, ?_⟩
    · exact (hb.cell (hbl _)).trans h0
    · rw [add_off _ _ _ (by decide)]; exact (hb.cell (hbl _)).trans h1
    · rw [add_off _ _ _ (by decide)]; exact (hb.cell (hbl _)).trans h2
theorem acts_form {w : World} {v : Value} {l : List (Int × Int × Int)} (h : BActs w v l) : ∃ a c, v = .slice a l.length c := by
  rcases h with ⟨rfl, rfl⟩ | ⟨a, c, rfl, _⟩
  · exact ⟨_, _, rfl⟩
  · exact ⟨_, _, rfl⟩
theorem idx_b (x : Int) : ∃ b : Nat, 1 ≤ b ∧ b ≤ 40 ∧ wrap64 (1 + wrap64 ((IntKind.u64.wrap x).tmod 40)) = (b : Int) := by
  have h0 : 0 ≤ IntKind.u64.wrap x := by show 0 ≤ x % 2 ^ 64; omega
  generalize IntKind.u64.wrap x = y at *
  obtain ⟨m, rfl⟩ : ∃ m : Nat, y = (m : Int) := ⟨y.toNat, by omega⟩
  refine ⟨1 + m % 40, by omega, by omega, ?_⟩
  have e : ((m : Int).tmod 40) = ((m % 40 : Nat) : Int) := by rw [show (40 : Int) = ((40 : Nat) : Int) from rfl, ← Int.ofNat_tmod]
  rw [e]
  unfold wrap64
  omega
theorem idx_at (x : Int) (n : Nat) (h1 : 1 ≤ n) (h2 : n ≤ 16) : ∃ a : Nat, a < n ∧ wrap64 ((IntKind.u64.wrap x).tmod (n : Int)) = (a : Int) := by
  have h0 : 0 ≤ IntKind.u64.wrap x := by show 0 ≤ x % 2 ^ 64; omega
  generalize IntKind.u64.wrap x = y at *
  obtain ⟨m, rfl⟩ : ∃ m : Nat, y = (m : Int) := ⟨y.toNat, by omega⟩
  have hlt : m % n < n := Nat.mod_lt _ h1
  refine ⟨m % n, hlt, ?_⟩
  have e : ((m : Int).tmod (n : Int)) = ((m % n : Nat) : Int) := by rw [← Int.ofNat_tmod]
  rw [e]
  unfold wrap64
  omega
theorem promE_three' (v : Vt) (b : Nat) : Bt.promE v b = 0 ∨ Bt.promE v b = 2 ∨ Bt.promE v b = 80 := by
  unfold Bt.promE
  split
  · split <;> simp
  · simp
theorem castE_three' (v : Vt) (b : Nat) (s : ByteArray) : Bt.castE v b s = 0 ∨ Bt.castE v b s = 2 ∨ Bt.castE v b s = 80 := by
  unfold Bt.castE
  split
  · split <;> simp
  · simp
theorem few16 {l : List Vt} {m n : Nat} (h : l.length = m) (h1 : m ≤ n) (h2 : n ≤ 16) : l.length ≤ 1000000 := by omega
theorem upd_self (R : Nat → Bt.Race) (b : Nat) : Bt.upd R b (R b) = R := by funext c; unfold Bt.upd; split <;> simp_all
theorem info_race : (Try.prog.info? 49).map (·.size) = some 19 := by kernel_rfl
theorem rc_one (v : Value) (r : Bt.Race) (hv : v.oneCell' = true) : ∀ u ∈ rc v r, u.oneCell' = true := by
  intro u hu
  unfold rc at hu
  rcases List.mem_cons.1 hu with rfl | hu
  · exact hv
  · rcases List.mem_append.1 hu with hu | hu
    · obtain ⟨b, _, rfl⟩ := List.mem_map.1 hu
      rfl
    · simp only [List.mem_cons, List.not_mem_nil, or_false] at hu
      rcases hu with rfl | rfl <;> rfl
theorem votes_one {W : World} {base : Nat} {v : Value} {l : List Vt} (h : Votes W base v l) : v.oneCell' = true := by
  obtain ⟨a, c, rfl, _⟩ := h.form
  rfl
theorem store_race (W : World) (v : Value) (r : Bt.Race) (hr : r.has.length = 16) (hv : v.oneCell' = true) (Z : Array Value) (hZ : Z.size = 19) :
    (storeVar 49 ⟨W.heap.size, 0, none⟩ (.agg (rc v r).toArray)).run Try.prog (W.alloc (.cells Z 49)) = .ok () (W.alloc (.cells (rc v r).toArray 49)) :=
  run_storeVar_new W _ Z _ (by rw [info_race]; simp [rc_len _ _ hr]) (by simp [rc_len _ _ hr, hZ]) (by
    rw [Array.all_eq_true_iff_forall_mem]
    intro u hu
    exact rc_one v r hv u (by simpa using hu))
theorem load_race {w0 W : World} {G T : Nat} {A : List Vt} {R : Nat → Bt.Race} {vs : Nat → Value} (h : Mem w0 G T A R vs W) (hl : ∀ b, (R b).has.length = 16) (b : Nat) (hb : b < 41) :
    (loadVar 49 ⟨T, b * 19, none⟩).run Try.prog W = .ok (.agg (rc (vs b) (R b)).toArray) W :=
  run_loadVar_mid W T (b * 19) _ _ _ (h.race hl b hb) Try.underlying49 rfl (by rw [info_race, rc_len _ _ (hl b)])
end One
set_option maxRecDepth 100000 in
set_option maxHeartbeats 80000000 in
theorem lawOne8 (n : Nat) (h1 : 1 ≤ n) (h2 : n ≤ 16) (v0 : Value) (l : List (Int × Int × Int)) (hl : l.length ≤ maxLen) (w : World) (hT : BActs w v0 l) : Calls Try.prog 7 #[.int .i64 (n : Int), v0] w fun e w' => e = .returned (.bool true) ∧ Below w.heap.size w w' := by
  obtain ⟨a0, c0, rfl⟩ := One.acts_form hT
  obtain ⟨len, hlen⟩ : ∃ len, l.length = len := ⟨_, rfl⟩
  have HT := Lib.hid hT
  have HL := Lib.hid hlen
  rw [hlen] at hl ⊢
  clear hT hlen
  unfold maxLen at hl
  have H1 := Lib.hid (fun W => lawShown8 W)
  have hzr := fun W => One.zero_races W
  obtain ⟨i0, hi, hz0, hz1, hz2⟩ := info_parts info_vote
  have k1 : decide ((n : Int) < 1) = false := decide_eq_false (by omega)
  have k2 : decide (16 < (n : Int)) = false := decide_eq_false (by omega)
  have k1' : ¬ (n : Int) < 1 := by omega
  have k2' : ¬ 16 < (n : Int) := by omega
  go_enter Try.func7, Try.ntmps7
  go_upto_region 4 with (go_at_call 10; refine (H1.out _).mono ?_; rintro e w1 ⟨rfl, hb1⟩)
  go_upto_region 8 with (first
    | (at_make; refine wpList_make_full _ rfl _ _ _ rfl w.heap.size 24 i0 _ 3 Try.underlying33 hi hz0 hz1 .i64 .i64 _ _ n rfl rfl rfl rfl (by rw [hz2]; omega) (by unfold maxLen; omega) hb1.size ?_; intro w2 hown hgrow))
  have hM0 : One.Mem w w1.heap.size w2.heap.size (List.replicate n Vt.zero) One.R0 One.V0 (w2.alloc (.cells (One.rcs One.V0 One.R0 0 41).toArray 50)) := One.mem0 hb1 hown hgrow
  have hS0 := One.Sys.start n h2
  have hs1 := hb1.size
  obtain ⟨W0, hW0⟩ : ∃ W0, w2.alloc (.cells (One.rcs One.V0 One.R0 0 41).toArray 50) = W0 := ⟨_, rfl⟩
  obtain ⟨G, hG⟩ : ∃ G, w1.heap.size = G := ⟨_, rfl⟩
  obtain ⟨T, hTT⟩ : ∃ T, w2.heap.size = T := ⟨_, rfl⟩
  rw [hW0, hG, hTT] at hM0
  try rw [hW0]
  try rw [hG]
  try rw [hTT]
  clear hW0 hG hTT hown hgrow hs1 hb1 w1 w2 hzr hi hz0 hz1 k1 k2
  have hrd := HT
  go_wp2
  go_loopw [8, 9, 10] (fun s8 s9 i wr => ∃ (k : Nat) (A : List Vt) (R : Nat → Bt.Race) (vs : Nat → Value) (sm : Bool) (fst : ByteArray), k ≤ len ∧ k ≤ 300 ∧ i = .int .i64 (k : Int) ∧ s9 = .bool sm ∧ s8 = .string fst ∧ One.Sys n A R sm fst ∧ One.Mem w G T A R vs wr) (fun _ _ i _ => 300 - (intOf i).toNat)
  case atStart => exact ⟨0, _, _, _, false, ⟨#[]⟩, Nat.zero_le _, Nat.zero_le _, rfl, rfl, rfl, hS0, hM0⟩
  case round =>
    obtain ⟨k, A, R, vs, sm, fst, hk, hk300, rfl, rfl, rfl, hS, hM⟩ := hrel
    clear hM0 hS0
    by_cases hlt : k < len
    · by_cases h300 : k < 300
      · have hkl : k < l.length := by rw [HL.out]; exact hlt
        obtain ⟨ad, c', e1, hx⟩ := One.acts_at HT.out k hkl
        simp only [Value.slice.injEq] at e1
        obtain ⟨rfl, -, -⟩ := e1
        have hki : (k : Int) < (len : Int) := by omega
        have hki2 : (k : Int) < 300 := by omega
        obtain ⟨q0, q1, q2⟩ := hx wr hM.below
        have HX := Lib.hid hx
        clear hx
        generalize l[k] = act at *
        obtain ⟨ado, aB, aAt⟩ := act
        dsimp only at q0 q1 q2
        go_upto_region 13 with fail
        obtain ⟨b, hb1, hb40, hbE⟩ := One.idx_b aB
        obtain ⟨at', hatn, haE⟩ := One.idx_at aAt n h1 h2
        rw [hbE, haE]
        clear hbE haE q0 q1 q2
        have hb41 : (b : Int) < 41 := by omega
        have hb0 : (0 : Int) ≤ (b : Int) := by omega
        have hatl : at' < A.length := by rw [hS.len]; exact hatn
        have hati : (at' : Int) < (n : Int) := by omega
        have hhl := hS.hasl
        have HLD := Lib.hid (One.load_race hM hhl b (by omega))
        have HST := Lib.hid (fun (Z : Array Value) (hZ : Z.size = 19) => One.store_race wr (vs b) (R b) (hhl b) (One.votes_one (hM.lists b (by omega))) Z hZ)
        go_cut [13] from 33 to 185 (fun s13 wx => ∃ Q, s13 = .pointer (some ⟨Q, 0, none⟩) ∧ Below wr.heap.size wr wx ∧ wr.heap.size ≤ Q ∧ wx.heap[Q]? = some (.cells (One.rc (vs b) (R b)).toArray 49 (0, 0)))
        case first =>
          go_wp2_with (first
            | (refine wpList_load_at rfl 49 _ rfl ⟨T, b * 19, none⟩ rfl _ HLD.out ?_)
            | (refine wpList_store_at rfl 49 _ _ rfl ⟨wr.heap.size, 0, none⟩ rfl _ rfl _ (HST.out _ rfl) ?_))
          go_meet
          exact ⟨wr.heap.size, rfl, (Below.refl _ wr).alloc (Nat.le_refl _) _, Nat.le_refl _, World.alloc_heap_new wr _⟩
        case rest =>
          obtain ⟨Q, rfl, hbx, hQ, hrq⟩ := hcut
          have hM1 := hM.grow hbx
          obtain ⟨W1, hW1⟩ : ∃ W1, wc = W1 := ⟨_, rfl⟩
          rw [hW1] at hM1 hrq hbx ⊢
          clear hW1
          clear wc
          obtain ⟨q0, -, -⟩ := HX.out W1 hM1.below
          go_upto_block 2 with fail
          obtain ⟨d, hd⟩ : ∃ d : Int, (IntKind.u64.wrap ado).tmod 3 = d := ⟨_, rfl⟩
          try rw [hd]
          clear hd q0 HX
          go_cut [14, 15, 16, 17, 18, 19] from 33 to 185 (fun s14 s15 s16 s17 s18 s19 wx => ∃ (A' : List Vt) (r' : Bt.Race) (v' : Value), One.Sys n A' (Bt.upd R b r') sm fst ∧ One.Mem w G T A' R vs wx ∧ wx.heap[Q]? = some (.cells (One.rc v' r').toArray 49 (0, 0)) ∧ Votes wx w.heap.size v' r'.by' ∧ v'.ownBlock ≠ some G ∧ v'.ownBlock ≠ some T ∧ r'.has.length = 16)
          case first =>
            have hQG : Q ≠ G := by have := hM.ltG; omega
            have hQT : Q ≠ T := by have := hM.ltT; omega
            have hvQ : ∀ c, c < 41 → (vs c).ownBlock ≠ some Q := fun c hc e => by have := ((hM.lists c hc).lt Q e).2; omega
            have hQl := (Array.getElem?_eq_some_iff.1 hrq).1
            have hLb := hM1.lists b (Nat.lt_succ_of_le hb40)
            obtain ⟨hap1, hap2⟩ := hM1.apart b (Nat.lt_succ_of_le hb40)
            have hSb : One.Sys n A (Bt.upd R b (R b)) sm fst := by rw [One.upd_self]; exact hS
            by_cases hd0 : d = 0
            · subst hd0
              as_aux_lemma =>
                obtain ⟨⟨c0', c1', c2'⟩, hgf⟩ := hM1.cell at' hatl
                have HMA := Lib.hid hM1
                have hvr := hS.right _ (List.getElem_mem hatl)
                have HPO := Lib.hid (fun (he : Bt.promE A[at'] b = 0) => One.prom_ok (v := A[at']) (b := b) he)
                have HSP := Lib.hid (fun (he : Bt.promE A[at'] b = 0) => hS.promised b at' hatl he)
                have hP3 := One.promE_three' A[at'] b
                have hbw : IntKind.u64.wrap (b : Int) = (b : Int) := by rw [IntWalk.u64_in] <;> omega
                obtain ⟨v, hv⟩ : ∃ v, A[at'] = v := ⟨_, rfl⟩
                rw [hv] at c0' c1' c2' hvr HPO HSP hP3
                obtain ⟨p, c, s⟩ := v
                have hvs := hvr.2.2
                dsimp only at c0' c1' c2' hvs
                have HPR := Lib.hid (fun W => btPromise ⟨p, c, s⟩ b (by dsimp only; omega) W)
                obtain ⟨pp, pc, ps, hpv⟩ : ∃ pp pc ps, Bt.promV ⟨p, c, s⟩ b = ⟨pp, pc, ps⟩ := ⟨_, _, _, rfl⟩
                obtain ⟨pe, hpe⟩ : ∃ pe, Bt.promE ⟨p, c, s⟩ b = pe := ⟨_, rfl⟩
                rw [hpv, hpe] at HPR
                rw [hpv, hpe] at HPO HSP
                rw [hpe] at hP3
                unfold Vt.val at HPR
                dsimp only at HPR
                clear hpv hpe hvr hvs
                go_upto_region 17 with (go_at_call 12; refine (HPR.out _).mono ?_; rintro e w2 ⟨rfl, hb2⟩)
                have hbP : Below W1.heap.size W1 (w2.alloc (.cells #[.int .u64 (pp : Int), .int .u64 (pc : Int), .string ps] 24)) := hb2.alloc hb2.size _
                have hPr := World.alloc_heap_new w2 (.cells #[.int .u64 (pp : Int), .int .u64 (pc : Int), .string ps] 24)
                have hM2 := HMA.out.grow hbP
                have hrq2 := (hbP.block Q hQl).trans hrq
                have hPl : W1.heap.size ≤ w2.heap.size := hb2.size
                have hLb2 := hLb.below hbP
                obtain ⟨W2, hW2⟩ : ∃ W2, w2.alloc (.cells #[.int .u64 (pp : Int), .int .u64 (pc : Int), .string ps] 24) = W2 := ⟨_, rfl⟩
                obtain ⟨P, hPe⟩ : ∃ P, w2.heap.size = P := ⟨_, rfl⟩
                rw [hW2] at hPr hM2 hrq2 hLb2 ⊢
                rw [hPe] at hPr hPl ⊢
                clear hW2 hPe hb2 hbP HPR c0' c1' c2' hgf
                clear w2
                rcases hP3 with rfl | rfl | rfl
                · obtain ⟨hpo, hlt⟩ := HPO.out rfl
                  have hSP := HSP.out rfl
                  simp only [Vt.mk.injEq] at hpo
                  have HPB := Lib.hid hpo
                  clear hpo
                  have hPG : P ≠ G := by have := HMA.out.ltG; omega
                  have hPQ : P ≠ Q := by omega
                  have hPT : P ≠ T := by have := HMA.out.ltT; omega
                  obtain ⟨⟨g0, g1, g2⟩, gf⟩ := hM2.cell at' hatl
                  have gf0 := gf (at' * 3)
                  have gf1 := gf (at' * 3 + 1)
                  have gf2 := gf (at' * 3 + 2)
                  have e0 : W2.cell? ⟨P, 0, none⟩ = some (.int .u64 (pp : Int)) := cell_of hPr rfl
                  have e1 : W2.cell? ⟨P, 1, none⟩ = some (.int .u64 (pc : Int)) := cell_of hPr rfl
                  have e2 : W2.cell? ⟨P, 2, none⟩ = some (.string ps) := cell_of hPr rfl
                  go_upto_region 19 with fail
                  have hM3 := hM2.accept at' hatl ⟨pp, pc, ps⟩
                  dsimp only at hM3
                  have off3 := fun j (hj : j ≠ G) => (Below.heap_setCell ((W2.setCell ⟨G, at' * 3, none⟩ (.int .u64 (pp : Int))).setCell ⟨G, at' * 3 + 1, none⟩ (.int .u64 (pc : Int))) ⟨G, at' * 3 + 2, none⟩ (.string ps) j hj).trans ((Below.heap_setCell (W2.setCell ⟨G, at' * 3, none⟩ (.int .u64 (pp : Int))) ⟨G, at' * 3 + 1, none⟩ (.int .u64 (pc : Int)) j hj).trans (Below.heap_setCell W2 ⟨G, at' * 3, none⟩ (.int .u64 (pp : Int)) j hj))
                  have hrq3 := (off3 Q hQG).trans hrq2
                  have hPr3 := (off3 P hPG).trans hPr
                  have hLb3 := hM3.lists b (by omega)
                  obtain ⟨W3, hW3⟩ : ∃ W3, ((W2.setCell ⟨G, at' * 3, none⟩ (.int .u64 (pp : Int))).setCell ⟨G, at' * 3 + 1, none⟩ (.int .u64 (pc : Int))).setCell ⟨G, at' * 3 + 2, none⟩ (.string ps) = W3 := ⟨_, rfl⟩
                  rw [hW3] at hM3 hrq3 hPr3 hLb3 ⊢
                  clear hW3 off3 g0 g1 g2 gf gf0 gf1 gf2 e0 e1 e2 hM2 hrq2 hPr hLb2 HPO HSP
                  have hh16 := hhl b
                  obtain ⟨r0, -, r18, rh⟩ := One.rc_at (vs b) (R b) hh16
                  obtain ⟨ha, hha⟩ : ∃ ha, (R b).has[at']? = some ha := ⟨(R b).has[at']'(by omega), List.getElem?_eq_getElem (by omega)⟩
                  have z18 : W3.cell? ⟨Q, 18, none⟩ = some (.bool (R b).fixed) := cell_of hrq3 r18
                  have zh : W3.cell? ⟨Q, 1 + at', none⟩ = some (.bool ha) := cell_of hrq3 (rh at' ha hha)
                  have zhf := row_thawed hrq3 (1 + at')
                  have hati16 : (at' : Int) < 16 := by omega
                  have hSPb : One.Sys n (A.set at' ⟨pp, pc, ps⟩) (Bt.upd R b (R b)) sm fst := by rw [One.upd_self]; exact hSP
                  cases hfx : (R b).fixed with
                  | true =>
                    rw [hfx] at z18
                    go_wp2
                    go_meet
                    exact ⟨_, R b, vs b, hSPb, hM3, hrq3, hLb3, hap1, hap2, hh16⟩
                  | false =>
                    rw [hfx] at z18
                    cases ha with
                    | true =>
                      go_wp2
                      go_meet
                      exact ⟨_, R b, vs b, hSPb, hM3, hrq3, hLb3, hap1, hap2, hh16⟩
                    | false =>
                      have hSC := hSP.counted b at' (by rw [List.length_set]; exact hatl) ⟨pp, pc, ps⟩ (by simp) HPB.out.1 (by show pc < b; rw [HPB.out.2.1]; exact hlt) hfx hha
                      go_upto_region 21 with fail
                      as_aux_lemma =>
                        have hrq4 := row_setB hrq3 (1 + at') (.bool true)
                        rw [One.rc_has _ _ _ (by rw [hh16]; omega)] at hrq4
                        have hPr4 := (Below.heap_setCell W3 ⟨Q, 1 + at', none⟩ (.bool true) P hPQ).trans hPr3
                        have hwQ : w.heap.size ≤ Q := Nat.le_trans hM.below.size hQ
                        have hM4 := hM3.other (W' := W3.setCell ⟨Q, 1 + at', none⟩ (.bool true)) Q hwQ hQG hQT hvQ (fun j hj => Below.heap_setCell _ _ _ j hj) (by simp) ⟨rfl, rfl, rfl⟩
                        have hLb4 := hM4.lists b (by omega)
                        obtain ⟨W4, hW4⟩ : ∃ W4, W3.setCell ⟨Q, 1 + at', none⟩ (.bool true) = W4 := ⟨_, rfl⟩
                        rw [hW4] at hrq4 hPr4 hM4 hLb4 ⊢
                        clear hW4 hrq3 hPr3 hM3 hLb3 z18 zh zhf r18 rh r0
                        clear W3
                        have hr16 : ({ R b with has := (R b).has.set at' true } : Bt.Race).has.length = 16 := by simpa using hh16
                        obtain ⟨rc0, -, -, -⟩ := One.rc_at (vs b) { R b with has := (R b).has.set at' true } hr16
                        have hQl4 := (Array.getElem?_eq_some_iff.1 hrq4).1
                        have hPl4 := (Array.getElem?_eq_some_iff.1 hPr4).1
                        have HLB := Lib.hid (show (R b).by'.length ≤ 16 from Nat.le_trans (hS.bys b).1 h2)
                        have FS := Lib.hid (fun (W : World) (hb : Below W4.heap.size W4 W) => show W.cell? ⟨Q, 0, none⟩ = some (vs b) ∧ W.cell? ⟨P, 0, none⟩ = some (.int .u64 (pp : Int)) ∧ W.cell? ⟨P, 1, none⟩ = some (.int .u64 (pc : Int)) ∧ W.cell? ⟨P, 2, none⟩ = some (.string ps) from ⟨cell_of ((hb.block _ hQl4).trans hrq4) rc0, cell_of ((hb.block _ hPl4).trans hPr4) rfl, cell_of ((hb.block _ hPl4).trans hPr4) rfl, cell_of ((hb.block _ hPl4).trans hPr4) rfl⟩)
                        have HQF := Lib.hid (fun (W : World) (hb : Below W4.heap.size W4 W) => row_thawed ((hb.block _ hQl4).trans hrq4) 0)
                        have hS0 := FS.out W4.drew (Below.refl _ W4).drew
                        have hb40 : Below W4.heap.size W4 W4.drew := (Below.refl _ W4).drew
                        have HEND := Lib.hid (fun (wF : World) (vF : Value) (hbF : Below W4.heap.size W4 wF) (hvF : Votes wF W4.heap.size vF ((R b).by' ++ [⟨pp, pc, ps⟩])) => show ∃ (A' : List Vt) (r' : Bt.Race) (v' : Value), One.Sys n A' (Bt.upd R b r') sm fst ∧ One.Mem w G T A' R vs (wF.setCell ⟨Q, 0, none⟩ vF) ∧ (wF.setCell ⟨Q, 0, none⟩ vF).heap[Q]? = some (.cells (One.rc v' r').toArray 49 (0, 0)) ∧ Votes (wF.setCell ⟨Q, 0, none⟩ vF) w.heap.size v' r'.by' ∧ v'.ownBlock ≠ some G ∧ v'.ownBlock ≠ some T ∧ r'.has.length = 16 from
                          ⟨_, _, vF, hSC, (hM4.grow hbF).other Q hwQ hQG hQT hvQ (fun j hj => Below.heap_setCell _ _ _ j hj) (by simp) ⟨rfl, rfl, rfl⟩,
                            (row_setB ((hbF.block Q hQl4).trans hrq4) 0 vF).trans (by rw [One.rc_by _ vF _ ((R b).by' ++ [⟨pp, pc, ps⟩])]),
                            (hvF.keep (w' := wF.setCell ⟨Q, 0, none⟩ vF) (fun g hg => Below.heap_setCell _ _ _ g (fun e => by have h3 := (hvF.lt g hg).1; have e2 : g = Q := e; omega))).rebase (fun g hg => Nat.le_trans hM4.below.size (hvF.lt g hg).1),
                            (fun e => by have := (hvF.lt G e).1; have := hM4.ltG; omega), (fun e => by have := (hvF.lt T e).1; have := hM4.ltT; omega), hr16⟩)
                        clear hSC
                        refine (wpIn_wide (n := 3)).1 ?_
                        refine wpIn_region_end (fun W => W.cell? ⟨Q, 0, none⟩ = some (vs b) ∧ W.cell? ⟨P, 0, none⟩ = some (.int .u64 (pp : Int)) ∧ W.cell? ⟨P, 1, none⟩ = some (.int .u64 (pc : Int)) ∧ W.cell? ⟨P, 2, none⟩ = some (.string ps)) 8 (by kernel_rfl) ?_
                        change anyE _ _ _ _ _ _ _ _ 9 _ _ W4.drew
                        have hO1 := wide_plain (P := Try.prog)
                        refine anyE_take hO1 1 (v := .pointer (some ⟨Q, 0, none⟩)) rfl (by kernel_rfl) (fun _ _ _ h => h) hS0 (Or.inl ⟨by rfl, fun X hX => by obtain ⟨x0, x1, x2, x3⟩ := hX; go_simp⟩) ?_
                        try simp only [List.getElem_toArray, List.getElem_cons_zero, List.getElem_cons_succ, Act.put, List.setIfInBounds_toArray, List.set_cons_zero, List.set_cons_succ]
                        refine anyE_take hO1 2 (v := vs b) rfl (by kernel_rfl) (fun _ _ _ h => h) hS0 (Or.inl ⟨by rfl, fun X hX => by obtain ⟨x0, x1, x2, x3⟩ := hX; go_simp⟩) ?_
                        try simp only [List.getElem_toArray, List.getElem_cons_zero, List.getElem_cons_succ, Act.put, List.setIfInBounds_toArray, List.set_cons_zero, List.set_cons_succ]
                        refine anyE_take hO1 4 (v := .agg #[.int .u64 (pp : Int), .int .u64 (pc : Int), .string ps]) rfl (by kernel_rfl) (fun _ _ _ h => h) hS0 (Or.inl ⟨by rfl, fun X hX => by obtain ⟨x0, x1, x2, x3⟩ := hX; go_simp⟩) ?_
                        try simp only [List.getElem_toArray, List.getElem_cons_zero, List.getElem_cons_succ, Act.put, List.setIfInBounds_toArray, List.set_cons_zero, List.set_cons_succ]
                        refine anyE_two 0 5 rfl rfl (by kernel_rfl) (fun K hK => ?_) (fun K hK => ?_)
                        · refine opIn_make_votes rfl _ _ rfl W4.heap.size rfl rfl hb40.size ?_
                          intro wa hva hba
                          have hbwa : Below W4.heap.size W4 wa := hb40.trans (hba.mono hb40.size)
                          have hsa := hba.size
                          refine hK _ _ (fun _ => FS.out wa hbwa) ?_
                          clear hK K
                          try simp only [List.getElem_toArray, List.getElem_cons_zero, List.getElem_cons_succ, Act.put, List.setIfInBounds_toArray, List.set_cons_zero, List.set_cons_succ]
                          refine anyE_two 3 5 rfl rfl (by kernel_rfl) (fun K hK => ?_) (fun K hK => ?_)
                          · refine opIn_append_list rfl _ _ rfl W4.heap.size w.heap.size _ _ _ _ rfl (R b).by' rfl hva rfl (hLb4.below hbwa) (Nat.le_trans HLB.out (by decide)) hbwa.size ?_
                            intro v1 wc1 hv1 hgwc1 hatwc1
                            have hbwc1 : Below W4.heap.size W4 wc1 := hbwa.grown hgwc1 hbwa.size (fun g hg => (hva.lt g hg).1)
                            refine hK _ _ (fun _ => FS.out wc1 hbwc1) ?_
                            clear hK K
                            try simp only [List.getElem_toArray, List.getElem_cons_zero, List.getElem_cons_succ, Act.put, List.setIfInBounds_toArray, List.set_cons_zero, List.set_cons_succ]
                            refine anyE_sole 5 rfl (by kernel_rfl) (fun K hK => ?_)
                            go_simp
                            have hbwb0 := hbwc1.alloc hbwc1.size (.cells #[.int .u64 (pp : Int), .int .u64 (pc : Int), .string ps] 24)
                            have hnwb0 := World.alloc_heap_new wc1 (.cells #[.int .u64 (pp : Int), .int .u64 (pc : Int), .string ps] 24)
                            have hswb0 := World.size_alloc wc1 (.cells #[.int .u64 (pp : Int), .int .u64 (pc : Int), .string ps] 24)
                            refine hK _ _ (fun _ => FS.out _ hbwb0) ?_
                            clear hK K
                            try simp only [List.getElem_toArray, List.getElem_cons_zero, List.getElem_cons_succ, Act.put, List.setIfInBounds_toArray, List.set_cons_zero, List.set_cons_succ]
                            obtain ⟨wb, hwwb⟩ : ∃ wb, wc1.alloc (.cells #[.int .u64 (pp : Int), .int .u64 (pc : Int), .string ps] 24) = wb := ⟨_, rfl⟩
                            obtain ⟨N, hNN⟩ : ∃ N, wc1.heap.size = N := ⟨_, rfl⟩
                            have hv1' := hv1.below (w' := wb) (by rw [← hwwb]; exact (Below.refl _ wc1).alloc (Nat.le_refl _) _)
                            try rw [hwwb]
                            try rw [hNN]
                            rw [hwwb] at hbwb0 hnwb0 hswb0 
                            rw [hNN] at hnwb0 hswb0 
                            clear hwwb hNN
                            refine anyE_sole 6 rfl (by kernel_rfl) (fun K hK => ?_)
                            refine opIn_append_votes rfl _ _ rfl W4.heap.size _ _ rfl hv1' ⟨N, 0, none⟩ 1 1 [⟨pp, pc, ps⟩] rfl rfl (one_cells hnwb0) (one_few HLB.out) hbwb0.size ?_
                            intro vF wF hvF hgF hatF
                            have hbF : Below W4.heap.size W4 wF := hbwb0.grown hgF hbwb0.size (fun g hg => (hv1'.lt g hg).1)
                            refine hK _ _ (fun _ => FS.out wF hbF) ?_
                            clear hK K
                            try simp only [List.getElem_toArray, List.getElem_cons_zero, List.getElem_cons_succ, Act.put, List.setIfInBounds_toArray, List.set_cons_zero, List.set_cons_succ]
                            have hSF := FS.out wF hbF
                            have hend := HEND.out wF vF hbF hvF
                            have f0 := HQF.out wF hbF
                            obtain ⟨f1, -, -, -⟩ := FS.out wF hbF
                            obtain ⟨aF, cF, eF, _⟩ := hvF.form
                            clear hvF hgF hatF
                            generalize ((R b).by' ++ [Vt.mk pp pc ps]).length = qF at eF
                            subst eF
                            refine anyE_take hO1 7 (v := .pointer (some ⟨Q, 0, none⟩)) rfl (by kernel_rfl) (fun _ _ _ h => h) hSF (Or.inl ⟨by rfl, fun X hX => by obtain ⟨x0, x1, x2, x3⟩ := hX; go_simp⟩) ?_
                            try simp only [List.getElem_toArray, List.getElem_cons_zero, List.getElem_cons_succ, Act.put, List.setIfInBounds_toArray, List.set_cons_zero, List.set_cons_succ]
                            refine anyE_sole 8 rfl (by kernel_rfl) (fun K hK => ?_)
                            go_simp
                            refine hK _ _ (fun h => absurd rfl h) ?_
                            clear hK K
                            refine anyE_done (by kernel_rfl) ?_
                            try simp only [List.getElem_toArray, List.getElem_cons_zero, List.getElem_cons_succ, Act.put, List.setIfInBounds_toArray, List.set_cons_zero, List.set_cons_succ]
                            try go_wp2
                            go_meet
                            exact hend
                          · go_simp
                            have hbwb0 := hbwa.alloc hbwa.size (.cells #[.int .u64 (pp : Int), .int .u64 (pc : Int), .string ps] 24)
                            have hnwb0 := World.alloc_heap_new wa (.cells #[.int .u64 (pp : Int), .int .u64 (pc : Int), .string ps] 24)
                            have hswb0 := World.size_alloc wa (.cells #[.int .u64 (pp : Int), .int .u64 (pc : Int), .string ps] 24)
                            refine hK _ _ (fun _ => FS.out _ hbwb0) ?_
                            clear hK K
                            try simp only [List.getElem_toArray, List.getElem_cons_zero, List.getElem_cons_succ, Act.put, List.setIfInBounds_toArray, List.set_cons_zero, List.set_cons_succ]
                            obtain ⟨wb, hwwb⟩ : ∃ wb, wa.alloc (.cells #[.int .u64 (pp : Int), .int .u64 (pc : Int), .string ps] 24) = wb := ⟨_, rfl⟩
                            obtain ⟨N, hNN⟩ : ∃ N, wa.heap.size = N := ⟨_, rfl⟩
                            have hva' := hva.below (w' := wb) (by rw [← hwwb]; exact (Below.refl _ wa).alloc (Nat.le_refl _) _)
                            have hNa : ∀ g, (Value.slice (some ⟨W4.drew.heap.size, 0, none⟩) 0 16).ownBlock = some g → g ≠ N := fun g hg e => by have := (hva.lt g hg).2; omega
                            try rw [hwwb]
                            try rw [hNN]
                            rw [hwwb] at hbwb0 hnwb0 hswb0 
                            rw [hNN] at hnwb0 hswb0 
                            clear hwwb hNN
                            refine anyE_sole 3 rfl (by kernel_rfl) (fun K hK => ?_)
                            refine opIn_append_list rfl _ _ rfl W4.heap.size w.heap.size _ _ _ _ rfl (R b).by' rfl hva' rfl (hLb4.below hbwb0) (Nat.le_trans HLB.out (by decide)) hbwb0.size ?_
                            intro v1 wc1 hv1 hgwc1 hatwc1
                            have hbwc1 : Below W4.heap.size W4 wc1 := hbwb0.grown hgwc1 hbwb0.size (fun g hg => (hva'.lt g hg).1)
                            refine hK _ _ (fun _ => FS.out wc1 hbwc1) ?_
                            clear hK K
                            try simp only [List.getElem_toArray, List.getElem_cons_zero, List.getElem_cons_succ, Act.put, List.setIfInBounds_toArray, List.set_cons_zero, List.set_cons_succ]
                            have hnc := (hgwc1.block N (by omega) (fun e => hNa N e.symm rfl)).trans hnwb0
                            refine anyE_sole 6 rfl (by kernel_rfl) (fun K hK => ?_)
                            refine opIn_append_votes rfl _ _ rfl W4.heap.size _ _ rfl hv1 ⟨N, 0, none⟩ 1 1 [⟨pp, pc, ps⟩] rfl rfl (one_cells hnc) (one_few HLB.out) hbwc1.size ?_
                            intro vF wF hvF hgF hatF
                            have hbF : Below W4.heap.size W4 wF := hbwc1.grown hgF hbwc1.size (fun g hg => (hv1.lt g hg).1)
                            refine hK _ _ (fun _ => FS.out wF hbF) ?_
                            clear hK K
                            try simp only [List.getElem_toArray, List.getElem_cons_zero, List.getElem_cons_succ, Act.put, List.setIfInBounds_toArray, List.set_cons_zero, List.set_cons_succ]
                            have hSF := FS.out wF hbF
                            have hend := HEND.out wF vF hbF hvF
                            have f0 := HQF.out wF hbF
                            obtain ⟨f1, -, -, -⟩ := FS.out wF hbF
                            obtain ⟨aF, cF, eF, _⟩ := hvF.form
                            clear hvF hgF hatF
                            generalize ((R b).by' ++ [Vt.mk pp pc ps]).length = qF at eF
                            subst eF
                            refine anyE_take hO1 7 (v := .pointer (some ⟨Q, 0, none⟩)) rfl (by kernel_rfl) (fun _ _ _ h => h) hSF (Or.inl ⟨by rfl, fun X hX => by obtain ⟨x0, x1, x2, x3⟩ := hX; go_simp⟩) ?_
                            try simp only [List.getElem_toArray, List.getElem_cons_zero, List.getElem_cons_succ, Act.put, List.setIfInBounds_toArray, List.set_cons_zero, List.set_cons_succ]
                            refine anyE_sole 8 rfl (by kernel_rfl) (fun K hK => ?_)
                            go_simp
                            refine hK _ _ (fun h => absurd rfl h) ?_
                            clear hK K
                            refine anyE_done (by kernel_rfl) ?_
                            try simp only [List.getElem_toArray, List.getElem_cons_zero, List.getElem_cons_succ, Act.put, List.setIfInBounds_toArray, List.set_cons_zero, List.set_cons_succ]
                            try go_wp2
                            go_meet
                            exact hend
                        · go_simp
                          have hbwb0 : Below W4.heap.size W4 (W4.alloc (.cells #[.int .u64 (pp : Int), .int .u64 (pc : Int), .string ps] 24)).drew := ((Below.refl _ W4).alloc (Nat.le_refl _) _).drew
                          have hnwb0 : (W4.alloc (.cells #[.int .u64 (pp : Int), .int .u64 (pc : Int), .string ps] 24)).drew.heap[W4.heap.size]? = some (.cells #[.int .u64 (pp : Int), .int .u64 (pc : Int), .string ps] 24 (0, 0)) := World.alloc_heap_new W4 _
                          have hswb0 : (W4.alloc (.cells #[.int .u64 (pp : Int), .int .u64 (pc : Int), .string ps] 24)).drew.heap.size = W4.heap.size + 1 := World.size_alloc W4 _
                          refine hK _ _ (fun _ => FS.out _ hbwb0) ?_
                          clear hK K
                          try simp only [List.getElem_toArray, List.getElem_cons_zero, List.getElem_cons_succ, Act.put, List.setIfInBounds_toArray, List.set_cons_zero, List.set_cons_succ]
                          obtain ⟨wb, hwwb⟩ : ∃ wb, (W4.alloc (.cells #[.int .u64 (pp : Int), .int .u64 (pc : Int), .string ps] 24)).drew = wb := ⟨_, rfl⟩
                          obtain ⟨N, hNN⟩ : ∃ N, W4.heap.size = N := ⟨_, rfl⟩
                          try rw [hwwb]
                          try rw [hNN]
                          rw [hwwb] at hbwb0 hnwb0 hswb0
                          rw [hNN] at hnwb0 hswb0
                          clear hwwb hNN
                          refine anyE_sole 0 rfl (by kernel_rfl) (fun K hK => ?_)
                          refine opIn_make_votes rfl _ _ rfl W4.heap.size rfl rfl hbwb0.size ?_
                          intro wa hva hba
                          have hbwa : Below W4.heap.size W4 wa := hbwb0.trans (hba.mono hbwb0.size)
                          have hsa := hba.size
                          refine hK _ _ (fun _ => FS.out wa hbwa) ?_
                          clear hK K
                          try simp only [List.getElem_toArray, List.getElem_cons_zero, List.getElem_cons_succ, Act.put, List.setIfInBounds_toArray, List.set_cons_zero, List.set_cons_succ]
                          have hna := (hba.block N (by omega)).trans hnwb0
                          refine anyE_sole 3 rfl (by kernel_rfl) (fun K hK => ?_)
                          refine opIn_append_list rfl _ _ rfl W4.heap.size w.heap.size _ _ _ _ rfl (R b).by' rfl hva rfl (hLb4.below hbwa) (Nat.le_trans HLB.out (by decide)) hbwa.size ?_
                          intro v1 wc1 hv1 hgwc1 hatwc1
                          have hbwc1 : Below W4.heap.size W4 wc1 := hbwa.grown hgwc1 hbwa.size (fun g hg => (hva.lt g hg).1)
                          refine hK _ _ (fun _ => FS.out wc1 hbwc1) ?_
                          clear hK K
                          try simp only [List.getElem_toArray, List.getElem_cons_zero, List.getElem_cons_succ, Act.put, List.setIfInBounds_toArray, List.set_cons_zero, List.set_cons_succ]
                          have hnc := (hgwc1.block N (by omega) (fun e => by simp [Value.ownBlock] at e; omega)).trans hna
                          refine anyE_sole 6 rfl (by kernel_rfl) (fun K hK => ?_)
                          refine opIn_append_votes rfl _ _ rfl W4.heap.size _ _ rfl hv1 ⟨N, 0, none⟩ 1 1 [⟨pp, pc, ps⟩] rfl rfl (one_cells hnc) (one_few HLB.out) hbwc1.size ?_
                          intro vF wF hvF hgF hatF
                          have hbF : Below W4.heap.size W4 wF := hbwc1.grown hgF hbwc1.size (fun g hg => (hv1.lt g hg).1)
                          refine hK _ _ (fun _ => FS.out wF hbF) ?_
                          clear hK K
                          try simp only [List.getElem_toArray, List.getElem_cons_zero, List.getElem_cons_succ, Act.put, List.setIfInBounds_toArray, List.set_cons_zero, List.set_cons_succ]
                          have hSF := FS.out wF hbF
                          have hend := HEND.out wF vF hbF hvF
                          have f0 := HQF.out wF hbF
                          obtain ⟨f1, -, -, -⟩ := FS.out wF hbF
                          obtain ⟨aF, cF, eF, _⟩ := hvF.form
                          clear hvF hgF hatF
                          generalize ((R b).by' ++ [Vt.mk pp pc ps]).length = qF at eF
                          subst eF
                          refine anyE_take hO1 7 (v := .pointer (some ⟨Q, 0, none⟩)) rfl (by kernel_rfl) (fun _ _ _ h => h) hSF (Or.inl ⟨by rfl, fun X hX => by obtain ⟨x0, x1, x2, x3⟩ := hX; go_simp⟩) ?_
                          try simp only [List.getElem_toArray, List.getElem_cons_zero, List.getElem_cons_succ, Act.put, List.setIfInBounds_toArray, List.set_cons_zero, List.set_cons_succ]
                          refine anyE_sole 8 rfl (by kernel_rfl) (fun K hK => ?_)
                          go_simp
                          refine hK _ _ (fun h => absurd rfl h) ?_
                          clear hK K
                          refine anyE_done (by kernel_rfl) ?_
                          try simp only [List.getElem_toArray, List.getElem_cons_zero, List.getElem_cons_succ, Act.put, List.setIfInBounds_toArray, List.set_cons_zero, List.set_cons_succ]
                          try go_wp2
                          go_meet
                          exact hend
                · go_wp2
                  go_meet
                  exact ⟨A, R b, vs b, hSb, hM2, hrq2, hLb2, hap1, hap2, hhl b⟩
                · go_wp2
                  go_meet
                  exact ⟨A, R b, vs b, hSb, hM2, hrq2, hLb2, hap1, hap2, hhl b⟩
            · by_cases hd1 : d = 1
              · subst hd1
                as_aux_lemma =>
                  have hh16 := hhl b
                  obtain ⟨r0, r17, r18, rh⟩ := One.rc_at (vs b) (R b) hh16
                  have z0 : W1.cell? ⟨Q, 0, none⟩ = some (vs b) := cell_of hrq r0
                  have z18 : W1.cell? ⟨Q, 18, none⟩ = some (.bool (R b).fixed) := cell_of hrq r18
                  obtain ⟨ab, cb, hvb, -⟩ := hLb.form
                  obtain ⟨m, hm⟩ : ∃ m, (R b).by'.length = m := ⟨_, rfl⟩
                  have hmn : m ≤ n := by rw [← hm]; exact (hS.bys b).1
                  rw [hm] at hvb
                  rw [hvb] at z0
                  have HVB := Lib.hid hvb
                  have HMM := Lib.hid hm
                  clear hvb hm r0 r18 rh
                  have hd10 : ((1 : Int) == 0) = false := rfl
                  go_upto_region 23 with fail
                  go_cut [123] from 33 to 185 (fun s123 wx => ∃ f : Bool, s123 = .bool f ∧ wx = W1 ∧ (f = true → (R b).fixed = false ∧ n < 2 * m))
                  case first =>
                    have hmw := One.half m n hmn h2
                    cases hfx : (R b).fixed with
                    | true =>
                      rw [hfx] at z18
                      go_wp2
                      go_meet
                      exact ⟨false, rfl, rfl, fun h => by cases h⟩
                    | false =>
                      rw [hfx] at z18
                      by_cases hq : n < 2 * m
                      · have hqd := One.half_yes hq
                        have hqd' := One.half_yes' hq
                        go_wp2
                        go_meet
                        exact ⟨true, rfl, rfl, fun _ => ⟨hfx, hq⟩⟩
                      · have hqd := One.half_no hq
                        have hqd' := One.half_no' hq
                        go_wp2
                        go_meet
                        exact ⟨false, rfl, rfl, fun h => by cases h⟩
                  case rest =>
                    obtain ⟨f, rfl, hwc, hff⟩ := hcut
                    rw [hwc]
                    clear hwc
                    clear wc
                    go_upto_if 123 with fail
                    go_cut [16, 17] from 33 to 185 (fun s16 s17 wx => ∃ r1 : Bt.Race, One.Sys n A (Bt.upd R b r1) sm fst ∧ One.Mem w G T A R vs wx ∧ wx.heap[Q]? = some (.cells (One.rc (vs b) r1).toArray 49 (0, 0)) ∧ Votes wx w.heap.size (vs b) r1.by' ∧ r1.has.length = 16)
                    case first =>
                      cases f with
                      | false =>
                        go_wp2
                        go_meet
                        exact ⟨R b, hSb, hM1, hrq, hLb, hh16⟩
                      | true =>
                        obtain ⟨hfx, hq⟩ := hff rfl
                        have hbw8 := One.byte8 hb40
                        have hbw64 := One.byte64 hb40
                        have hbi64 := One.byteI hb40
                        have hcv := One.conv hb40 (W1.alloc (.cells #[.int .u8 (64 + (b : Int))] 5)) W1.heap.size 5 (World.alloc_heap_new W1 _)
                        have hqm : n < 2 * (R b).by'.length := by rw [HMM.out]; exact hq
                        have hPRP := hS.prop h1 b hqm
                        have hown : One.own b = (⟨#[111, 119, 110]⟩ : ByteArray) ++ (⟨#[UInt8.ofNat (64 + b)]⟩ : ByteArray) := rfl
                        obtain ⟨bs, hbs⟩ : ∃ bs, (Bt.best (R b).by' (One.own b)).2 = bs := ⟨_, rfl⟩
                        have hbss : bs.size ≤ 4000 := by rw [← hbs]; exact One.best_small _ _ (hS.bys b).2 (One.own_size b)
                        have hSC := hS.chosen b hfx hqm bs hbs hbss
                        have hW0 : Below W1.heap.size W1 (W1.alloc (.cells #[.int .u8 (64 + (b : Int))] 5)) := (Below.refl _ W1).alloc (Nat.le_refl _) _
                        have hPR := btProposal (n : Int) (vs b) (R b).by' (One.own b) (W1.alloc (.cells #[.int .u8 (64 + (b : Int))] 5)) (hLb.below hW0).toR (One.few16 HMM.out hmn h2) (fun v hv => One.small ((hS.bys b).2 v hv).2.2) (One.small (One.own_size b))
                        rw [hPRP.1, hPRP.2, hbs, HVB.out, hown] at hPR
                        have hts : (⟨#[UInt8.ofNat (64 + b)]⟩ : ByteArray).size = 1 := rfl
                        generalize (⟨#[UInt8.ofNat (64 + b)]⟩ : ByteArray) = tb at hcv hPR hts
                        have HPR := Lib.hid hPR
                        have HSC := Lib.hid hSC
                        clear hPR hSC hPRP hown hbs
                        have hss : ¬ (9223372036854775807 : Nat) < (⟨#[111, 119, 110]⟩ : ByteArray).size + tb.size := by rw [hts]; decide
                        go_upto_region 25 with (go_at_call 19; refine HPR.out.mono ?_; rintro e w5 ⟨rfl, hb5⟩)
                        have hb5' : Below W1.heap.size W1 w5 := hW0.trans (hb5.mono hW0.size)
                        have hM5 := hM1.grow hb5'
                        have hrq5 := (hb5'.block Q hQl).trans hrq
                        have hLb5 := hLb.below hb5'
                        clear hb5 hcv hW0 z0 z18 HPR
                        obtain ⟨-, u17, u18, -⟩ := One.rc_at (vs b) (R b) hh16
                        have z17 : w5.cell? ⟨Q, 17, none⟩ = some (.string (R b).value) := cell_of hrq5 u17
                        have z18 : w5.cell? ⟨Q, 18, none⟩ = some (.bool (R b).fixed) := cell_of hrq5 u18
                        have f17 := row_thawed hrq5 17
                        have f18 := row_thawed hrq5 18
                        go_wp2
                        have hwQ : w.heap.size ≤ Q := Nat.le_trans hM.below.size hQ
                        have hrq6 := row_setB (row_setB hrq5 17 (.string bs)) 18 (.bool true)
                        have hr6 : ({ R b with value := bs } : Bt.Race).has.length = 16 := hh16
                        rw [One.rc_value _ _ hh16, One.rc_fixed _ _ hr6] at hrq6
                        have hs6 : ∀ j, j ≠ Q → ((w5.setCell ⟨Q, 17, none⟩ (.string bs)).setCell ⟨Q, 18, none⟩ (.bool true)).heap[j]? = w5.heap[j]? := fun j hj => (Below.heap_setCell _ _ _ j hj).trans (Below.heap_setCell _ _ _ j hj)
                        have hM6 := hM5.other Q hwQ hQG hQT hvQ hs6 (by simp) ⟨rfl, rfl, rfl⟩
                        have hLb6 := hM6.lists b (Nat.lt_succ_of_le hb40)
                        obtain ⟨W6, hW6⟩ : ∃ W6, (w5.setCell ⟨Q, 17, none⟩ (.string bs)).setCell ⟨Q, 18, none⟩ (.bool true) = W6 := ⟨_, rfl⟩
                        rw [hW6] at hrq6 hM6 hLb6 ⊢
                        clear hW6 hs6 hM5 hrq5 hLb5 z17 z18 f17 f18 u17 u18
                        obtain ⟨r1, hr1⟩ : ∃ r1 : Bt.Race, (⟨(R b).by', (R b).has, bs, true⟩ : Bt.Race) = r1 := ⟨_, rfl⟩
                        have hr1f : r1.fixed = true := by rw [← hr1]
                        have hr1h : r1.has.length = 16 := by rw [← hr1]; exact hh16
                        have hr1b : (R b).by' = r1.by' := by rw [← hr1]
                        have hrq7 : W6.heap[Q]? = some (.cells (One.rc (vs b) r1).toArray 49 (0, 0)) := by rw [← hr1]; exact hrq6
                        have hS6 : One.Sys n A (Bt.upd R b r1) sm fst := by rw [← hr1]; exact HSC.out
                        have hLb7 : Votes W6 w.heap.size (vs b) r1.by' := by rw [← hr1b]; exact hLb6
                        clear HSC hr1 hr1b hrq6 hLb6 hr6
                        have hrq6 := hrq7
                        have hLb6 := hLb7
                        clear hrq7 hLb7
                        go_meet
                        exact ⟨r1, hS6, hM6, hrq6, hLb6, hr1h⟩
                    case rest =>
                      clear z0 z18
                      obtain ⟨r1, hS6, hM6, hrq6, hLb6, hr1h⟩ := hcut
                      obtain ⟨W6, hW6⟩ : ∃ W6, wc = W6 := ⟨_, rfl⟩
                      rw [hW6] at hM6 hrq6 hLb6 ⊢
                      clear hW6
                      clear wc
                      cases hr1f : r1.fixed with
                      | false =>
                        obtain ⟨-, -, y18, -⟩ := One.rc_at (vs b) r1 hr1h
                        rw [hr1f] at y18
                        have e18 : W6.cell? ⟨Q, 18, none⟩ = some (.bool false) := cell_of hrq6 y18
                        go_wp2
                        go_meet
                        exact ⟨A, r1, vs b, hS6, hM6, hrq6, hLb6, hap1, hap2, hr1h⟩
                      | true =>
                        as_aux_lemma =>
                          have hfx1 : (Bt.upd R b r1 b).fixed = true := by rw [Bt.upd_same]; exact hr1f
                          have hvl := hS6.val b hfx1
                          have HCS := Lib.hid (fun (he : Bt.castE A[at'] b (Bt.upd R b r1 b).value = 0) => hS6.cast b at' hatl hfx1 he)
                          rw [Bt.upd_same] at HCS hvl
                          obtain ⟨-, y17, y18, -⟩ := One.rc_at (vs b) r1 hr1h
                          rw [hr1f] at y18
                          have e18 : W6.cell? ⟨Q, 18, none⟩ = some (.bool true) := cell_of hrq6 y18
                          obtain ⟨val, hval⟩ : ∃ val, (r1).value = val := ⟨_, rfl⟩
                          rw [hval] at HCS hvl y17
                          clear hval hfx1 y18
                          obtain ⟨⟨c0', c1', c2'⟩, -⟩ := hM6.cell at' hatl
                          have hvr := hS.right _ (List.getElem_mem hatl)
                          have hbw := One.wrapU hb40
                          have hC3 := One.castE_three' A[at'] b val
                          obtain ⟨v, hv⟩ : ∃ v, A[at'] = v := ⟨_, rfl⟩
                          rw [hv] at c0' c1' c2' hvr HCS hC3
                          obtain ⟨p, c, s⟩ := v
                          have hvs := hvr.2.2
                          dsimp only at c0' c1' c2' hvs
                          have HCA := Lib.hid (fun W => btCast ⟨p, c, s⟩ b val (One.small hvs) (One.small hvl) W)
                          obtain ⟨cp, cc, cs, hcv⟩ : ∃ cp cc cs, Bt.castV ⟨p, c, s⟩ b val = ⟨cp, cc, cs⟩ := ⟨_, _, _, rfl⟩
                          obtain ⟨ce, hce⟩ : ∃ ce, Bt.castE ⟨p, c, s⟩ b val = ce := ⟨_, rfl⟩
                          rw [hcv, hce] at HCA HCS
                          rw [hce] at hC3
                          unfold Vt.val at HCA
                          dsimp only at HCA
                          clear hcv hce hvr hvs
                          have hGl := hM6.ltG
                          have hQl5 := (Array.getElem?_eq_some_iff.1 hrq6).1
                          go_upto_region 30 with fail
                          go_cut [18, 19] from 33 to 185 (fun s18 s19 wx => ∃ X, s18 = .pointer (some ⟨X, 0, none⟩) ∧ s19 = .int .i64 ce ∧ wx.heap[X]? = some (.cells #[.int .u64 (cp : Int), .int .u64 (cc : Int), .string cs] 24 (0, 0)) ∧ Below W6.heap.size W6 wx ∧ W6.heap.size ≤ X)
                          case first =>
                            have hq17 := cell_of hrq6 y17
                            have FS := Lib.hid (fun (W : World) (hb : Below W6.heap.size W6 W) => show W.cell? ⟨G, at' * 3, none⟩ = some (.int .u64 (p : Int)) ∧ W.cell? ⟨G, at' * 3 + 1, none⟩ = some (.int .u64 (c : Int)) ∧ W.cell? ⟨G, at' * 3 + 2, none⟩ = some (.string s) ∧ W.cell? ⟨Q, 17, none⟩ = some (.string val) from
                              ⟨(hb.cell (p := ⟨G, at' * 3, none⟩) hGl).trans c0', (hb.cell (p := ⟨G, at' * 3 + 1, none⟩) hGl).trans c1', (hb.cell (p := ⟨G, at' * 3 + 2, none⟩) hGl).trans c2', (hb.cell (p := ⟨Q, 17, none⟩) hQl5).trans hq17⟩)
                            have hS0 := FS.out _ (Below.refl _ W6).drew
                            have hNW : (W6.alloc (.cells #[.int .u64 (0 : Int), .int .u64 (0 : Int), .string ⟨#[]⟩] 24)).drew.heap[W6.heap.size]? = some (.cells #[.int .u64 (0 : Int), .int .u64 (0 : Int), .string ⟨#[]⟩] 24 (0, 0)) := World.alloc_heap_new W6 _
                            go_region_held3 (fun W => W.cell? ⟨G, at' * 3, none⟩ = some (.int .u64 (p : Int)) ∧ W.cell? ⟨G, at' * 3 + 1, none⟩ = some (.int .u64 (c : Int)) ∧ W.cell? ⟨G, at' * 3 + 2, none⟩ = some (.string s) ∧ W.cell? ⟨Q, 17, none⟩ = some (.string val)) (first | exact hS0 | exact hS1 | exact hS2 | exact FS.out _ (((Below.refl _ W6).alloc (Nat.le_refl _) _).drew) | exact FS.out _ (hbN.alloc hbN.size _) | exact FS.out _ (((hbN.setCell (p := ⟨W6.heap.size, 0, none⟩) (by simp) _).setCell (p := ⟨W6.heap.size, 1, none⟩) (by simp) _).setCell (p := ⟨W6.heap.size, 2, none⟩) (by simp) _) | go_keep) (first
                              | (go_at_call 14; refine (HCA.out W6.drew).mono ?_; rintro e w9 ⟨rfl, hbx⟩; have hbN : Below W6.heap.size W6 w9 := (Below.refl _ W6).drew.trans (hbx.mono (Nat.le_refl _)); have hS1 := FS.out _ hbN)
                              | (go_at_call 14; refine (HCA.out (W6.alloc _).drew).mono ?_; rintro e w9 ⟨rfl, hbx⟩; have hbN : Below W6.heap.size W6 w9 := (((Below.refl _ W6).alloc (Nat.le_refl _) _).drew).trans (hbx.mono (by simp)); have hS2 := FS.out _ hbN; have hnw := (hbx.block W6.heap.size (by simp)).trans hNW; have z0 : w9.cell? ⟨W6.heap.size, 0, none⟩ = some (.int .u64 0) := cell_of hnw rfl; have z1 : w9.cell? ⟨W6.heap.size, 1, none⟩ = some (.int .u64 0) := cell_of hnw rfl; have z2 : w9.cell? ⟨W6.heap.size, 2, none⟩ = some (.string ⟨#[]⟩) := cell_of hnw rfl; have f0 := row_thawed hnw 0; have f1 := row_thawed hnw 1; have f2 := row_thawed hnw 2))
                            all_goals first
                              | (go_wp2; go_meet; exact ⟨_, rfl, rfl, World.alloc_heap_new w9 _, hbN.alloc hbN.size _, hbN.size⟩)
                              | (go_wp2; go_meet; exact ⟨_, rfl, rfl, row_setB (row_setB (row_setB hnw 0 (.int .u64 (cp : Int))) 1 (.int .u64 (cc : Int))) 2 (.string cs), ((hbN.setCell (p := ⟨W6.heap.size, 0, none⟩) (by simp) _).setCell (p := ⟨W6.heap.size, 1, none⟩) (by simp) _).setCell (p := ⟨W6.heap.size, 2, none⟩) (by simp) _, Nat.le_refl _⟩)
                          case rest =>
                            obtain ⟨X, rfl, rfl, hX, hB, hVX⟩ := hcut
                            clear HCA c0' c1' c2' e18 y17
                            have hM7 := hM6.grow hB
                            have hrq7 := (hB.block Q hQl5).trans hrq6
                            have hLb7 := hLb6.below hB
                            rcases hC3 with rfl | rfl | rfl
                            · have hSC := HCS.out rfl
                              obtain ⟨⟨g0, g1, g2⟩, gf⟩ := hM7.cell at' hatl
                              have gf0 := gf (at' * 3)
                              have gf1 := gf (at' * 3 + 1)
                              have gf2 := gf (at' * 3 + 2)
                              have e0 : wc.cell? ⟨X, 0, none⟩ = some (.int .u64 (cp : Int)) := cell_of hX rfl
                              have e1 : wc.cell? ⟨X, 1, none⟩ = some (.int .u64 (cc : Int)) := cell_of hX rfl
                              have e2 : wc.cell? ⟨X, 2, none⟩ = some (.string cs) := cell_of hX rfl
                              have hM8 := hM7.accept at' hatl ⟨cp, cc, cs⟩
                              dsimp only at hM8
                              have hrq8 := (Below.heap_setCell ((wc.setCell ⟨G, at' * 3, none⟩ (.int .u64 (cp : Int))).setCell ⟨G, at' * 3 + 1, none⟩ (.int .u64 (cc : Int))) ⟨G, at' * 3 + 2, none⟩ (.string cs) Q hQG).trans ((Below.heap_setCell (wc.setCell ⟨G, at' * 3, none⟩ (.int .u64 (cp : Int))) ⟨G, at' * 3 + 1, none⟩ (.int .u64 (cc : Int)) Q hQG).trans ((Below.heap_setCell wc ⟨G, at' * 3, none⟩ (.int .u64 (cp : Int)) Q hQG).trans hrq7))
                              have hLb8 := hLb7.keep (w' := ((wc.setCell ⟨G, at' * 3, none⟩ (.int .u64 (cp : Int))).setCell ⟨G, at' * 3 + 1, none⟩ (.int .u64 (cc : Int))).setCell ⟨G, at' * 3 + 2, none⟩ (.string cs)) (fun g hg => (Below.heap_setCell _ _ _ g (fun e => hap1 (hg.trans (congrArg some e)))).trans ((Below.heap_setCell _ _ _ g (fun e => hap1 (hg.trans (congrArg some e)))).trans (Below.heap_setCell _ _ _ g (fun e => hap1 (hg.trans (congrArg some e))))))
                              have HR8 := Lib.hid (And.intro hM8 (And.intro hrq8 hLb8))
                              clear hM8 hrq8 hLb8 gf
                              go_wp2
                              go_meet
                              exact ⟨_, r1, vs b, hSC, HR8.out.1, HR8.out.2.1, HR8.out.2.2, hap1, hap2, hr1h⟩
                            · go_wp2
                              go_meet
                              exact ⟨A, r1, vs b, hS6, hM7, hrq7, hLb7, hap1, hap2, hr1h⟩
                            · go_wp2
                              go_meet
                              exact ⟨A, r1, vs b, hS6, hM7, hrq7, hLb7, hap1, hap2, hr1h⟩
              · have hd0' : (d == 0) = false := by simpa using hd0
                have hd1' : (d == 1) = false := by simpa using hd1
                go_wp2
                go_meet
                exact ⟨A, R b, vs b, hSb, hM1, hrq, hLb, hap1, hap2, hhl b⟩
          case rest =>
            obtain ⟨A', r', v', hS2, hM2, hrq2, hv2, hvG, hvT, hr'⟩ := hcut
            have hrl := One.rc_len v' r' hr'
            have HLQ := Lib.hid (run_loadVar_row (P := Try.prog) wc Q 49 49 (One.rc v' r').toArray (0, 0) _ hrq2 Try.underlying49 rfl (by rw [One.info_race]; simp [hrl]))
            have HSQ := Lib.hid (run_storeVar_mid (P := Try.prog) wc T (b * 19) 50 49 (One.rcs vs R 0 41).toArray (One.rc v' r') hM2.rac (by rw [One.info_race, hrl]) (by rw [hrl]; simp [One.rcs_len vs R hhl]; omega) (One.rc_one v' r' (One.votes_one hv2)))
            have hM3 := hM2.put hhl b (by omega) v' r' hr' hv2 hvG hvT
            have hb41' : (b : Int) < 41 := hb41
            clear hrq2 hv2 hM2 hM1 hbx hrq hS hM hrl
            go_upto_region 34 with (first
              | (refine wpList_load_at rfl 49 _ rfl ⟨Q, 0, none⟩ rfl _ HLQ.out ?_)
              | (refine wpList_store_at rfl 49 _ _ rfl ⟨T, b * 19, none⟩ rfl _ rfl _ HSQ.out ?_))
            clear HLQ HSQ
            generalize wc.setRow T (((One.rcs vs R 0 41).toArray.toList.take (b * 19) ++ One.rc v' r' ++ (One.rcs vs R 0 41).toArray.toList.drop (b * 19 + (One.rc v' r').length)).toArray) = W3 at hM3 ⊢
            have hA' := hS2.len
            have HDC := Lib.hid (btDecided (.slice (some ⟨G, 0, none⟩) n n) A' W3 (by have := hM3.toR n; rwa [hA'] at this) (by omega) (fun v hv => by have := (hS2.right v hv).2.2; omega))
            rw [hS2.asked h1] at HDC
            have HTD := Lib.hid (fun h => hS2.told h)
            have HS2 := Lib.hid hS2
            have HM3 := Lib.hid hM3
            clear hS2 hM3 hA'
            have hds : ∀ x, Bt.decB A' = x → Bt.decB A' = x := fun _ h => h
            cases hdB : Bt.decB A' with
            | true =>
              rw [hdB] at HDC
              obtain ⟨hS4, hsf⟩ := HTD.out hdB
              have HS4 := Lib.hid hS4
              clear hS4 HTD hds hdB
              obtain ⟨ds, hdse⟩ : ∃ ds, Bt.decS A' = ds := ⟨_, rfl⟩
              rw [hdse] at HDC HS4 hsf
              clear hdse
              cases sm with
              | true =>
                obtain rfl := hsf rfl
                go_wp2_with (go_at_call 21; refine HDC.out.mono ?_; rintro e w4 ⟨rfl, hb4⟩)
                go_roundw
                case rel => exact ⟨k + 1, A', _, _, true, _, by omega, by omega, by go_num, rfl, rfl, HS4.out, HM3.out.grow hb4⟩
                case measure => simp [intOf]; omega
              | false =>
                clear hsf
                go_wp2_with (go_at_call 21; refine HDC.out.mono ?_; rintro e w4 ⟨rfl, hb4⟩)
                go_roundw
                case rel => exact ⟨k + 1, A', _, _, true, _, by omega, by omega, by go_num, rfl, rfl, HS4.out, HM3.out.grow hb4⟩
                case measure => simp [intOf]; omega
            | false =>
              rw [hdB] at HDC
              clear HTD hds hdB
              generalize Bt.decS A' = ds at *
              go_wp2_with (go_at_call 21; refine HDC.out.mono ?_; rintro e w4 ⟨rfl, hb4⟩)
              go_roundw
              case rel => exact ⟨k + 1, A', _, _, sm, fst, by omega, by omega, by go_num, rfl, rfl, HS2.out, HM3.out.grow hb4⟩
              case measure => simp [intOf]; omega
      · obtain rfl : k = 300 := by omega
        have hki : ((300 : Nat) : Int) < (len : Int) := by omega
        have hbel := hM.below
        go_wp2
        go_ret
        exact ⟨rfl, hbel⟩
    · obtain rfl : k = len := by omega
      have hbel := hM.below
      go_wp2
      go_ret
      exact ⟨rfl, hbel⟩
theorem lawOne8W (n : Int) (v0 : Value) (l : List (Int × Int × Int)) (w : World) (hT : BActs w v0 l) (hl : l.length ≤ maxLen) : Calls Try.prog 7 #[.int .i64 n, v0] w fun e w' => e = .returned (.bool true) ∧ Below w.heap.size w w' := by
  by_cases h : 1 ≤ n ∧ n ≤ 16
  · obtain ⟨m, rfl⟩ : ∃ m : Nat, n = (m : Int) := ⟨n.toNat, by omega⟩
    exact lawOne8 m (by omega) (by omega) v0 l hl w hT
  · obtain ⟨a0, c0, rfl⟩ := One.acts_form hT
    exact lawOneNo n (by omega) a0 l.length c0 w
end Go.Proofs.Ytigameebcicgpaa
