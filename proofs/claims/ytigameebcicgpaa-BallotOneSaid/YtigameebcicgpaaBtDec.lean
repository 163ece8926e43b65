/-
  Package ballot: Decided; walked.
-/
import Derived.Test.YtigameebcicgpaaBtDecMath
import Derived.Test.YtigameebcicgpaaBtPropC
import Derived.Test.YtigameebcicgpaaHeldEnd
namespace Go.Proofs.Ytigameebcicgpaa
open Go.RowKit Go.Shelf
attribute [local go_sem] Oper.semAt_some
set_option linter.unusedVariables false
set_option linter.unusedSimpArgs false

theorem obj_kept {M B : Nat} (hM : M < B) {β : Type} (f : β → World → Prop) (hf : ∀ k (X Y : World), Y.heap[M]? = X.heap[M]? → X.heap.size ≤ Y.heap.size → f k X → f k Y) (hlt : ∀ k X, f k X → M < X.heap.size) : OwnFrom B f :=
  fun k X Y row hs hg hr => hf k X Y (hg.block M (hlt k X hs) (fun e => by have := (hr _ e.symm).1; omega)) hg.size hs
theorem dec_small {q len : Nat} (h : q ≤ len) (h2 : len ≤ 16) : q + 1 ≤ 1000000 := by omega
theorem dec_wrapI {q len : Nat} (h : q ≤ len) (h2 : len ≤ 16) : IntKind.i64.wrap ((q : Int) + 1) = (q : Int) + 1 := by rw [IntWalk.i64_in] <;> omega
theorem dec_yes {q len : Nat} (h : len < 2 * (q + 1)) : decide ((len : Int) < 2 * ((q : Int) + 1)) = true := decide_eq_true (by omega)
theorem dec_no {q len : Nat} (h : ¬ len < 2 * (q + 1)) : decide ((len : Int) < 2 * ((q : Int) + 1)) = false := decide_eq_false (by omega)
theorem dec_wrap {q len : Nat} (h : q ≤ len) (h2 : len ≤ 16) : wrap64 ((q : Int) + 1) = (q : Int) + 1 := by unfold wrap64; omega
theorem putObj_from {M n : Nat} {W : World} {o : Obj} (h : M < n) : KeepsFrom n W (W.putObj M o) :=
  ⟨by simp [World.putObj], fun j o' hj hk _ => (World.putObj_heap_other (by omega)).trans hk⟩
theorem putObj_below {M n : Nat} {w W : World} {o : Obj} (h : Below n w W) (hM : n ≤ M) : Below n w (W.putObj M o) :=
  h.trans ⟨rfl, rfl, rfl, by simp [World.putObj], fun j hj => World.putObj_heap_other (by omega)⟩
set_option maxRecDepth 100000 in
set_option maxHeartbeats 4000000 in
theorem btDecidedOk (v0 : Value) (l : List Vt) (w : World) (hT : VtsR w v0 l) (hn1 : 1 ≤ l.length) (hn2 : l.length ≤ 16) (hr : ∀ v ∈ l, Bt.Right v) :
    Calls Try.prog 21 #[v0] w fun e w' => e = .returned (.tuple #[.string (Bt.decS l), .bool (Bt.decB l), .int .i64 0]) ∧ Below w.heap.size w w' := by
  have hE : Bt.decE l = 0 := by unfold Bt.decE; rw [if_pos ⟨hn1, hn2⟩, if_pos hr]
  obtain ⟨a0, c0, rfl⟩ := hT.form
  obtain ⟨len, hlen⟩ : ∃ len, l.length = len := ⟨_, rfl⟩
  have HT := Lib.hid hT
  have HL := Lib.hid hlen
  have HRR := Lib.hid hr
  have HEE := Lib.hid hE
  have HS := Lib.hid (fun (W : World) (hb : Below w.heap.size w W) => btSound (.slice a0 l.length c0) l none 0 0 true W (hT.below hb) (by omega) (fun v hv => by have := (hr v hv).2.2; omega) (fun W' _ => btFit0 W'))
  rw [decide_eq_true hr] at HS
  have HG := Lib.hid (fun W => btGroup (l.length : Int) W)
  rw [decide_eq_true (show 1 ≤ (l.length : Int) ∧ (l.length : Int) ≤ 16 from ⟨by omega, by omega⟩)] at HG
  have HLT := Lib.hid hT.lt
  rw [hlen] at hn1 hn2 HS HG HT HLT ⊢
  clear hT hlen hr hE
  refine (callsIn_wide (n := 3)).1 ?_
  refine callsIn_of_wp_marks Try.func21 rfl trivial ?_ rfl
  simp only [Try.ntmps21, List.size_toArray, List.length_cons, List.length_nil, Nat.reduceAdd, Nat.reduceSub, Array.replicate_succ, Array.replicate_zero, List.push_toArray, List.append_toArray, List.nil_append, List.cons_append]
  have hmm := @run_makeMap Try.prog
  refine wpIn_wide.2 ?_
  have hb00 : Below w.heap.size w (w.alloc (.cells #[.slice a0 len c0] 33)) := (Below.refl _ w).alloc (Nat.le_refl _) _
  go_wp2
  go_step3
  go_wp2_with (first
    | (go_at_call 28; refine (HG.out _).mono ?_; rintro e w1 ⟨rfl, rfl⟩)
    | (go_at_call 30; refine (HS.out _ hb00).mono ?_; rintro e w1 ⟨rfl, hb1⟩; have hr1 := (hb1.block w.heap.size (by simp)).trans (World.alloc_heap_new w _); have hbA : Below w.heap.size w w1 := hb00.trans (hb1.mono (by simp)); have hsA : w.heap.size < w1.heap.size := (Array.getElem?_eq_some_iff.1 hr1).1; have x0 : w1.cell? ⟨w.heap.size, 0, none⟩ = some (.slice a0 len c0) := cell_ofW hr1 rfl; clear hb1)
    | (go_at_call 31; refine (btVoted _ _ _ _).mono ?_; rintro e w' ⟨rfl, rfl⟩))
  have hb4 : Below w1.heap.size w1 ((((w1.alloc (.cells #[.string ⟨#[]⟩] 9)).alloc (.cells #[.bool false] 4)).alloc (.map #[] 0)).alloc (.cells #[.map (some (w1.heap.size + 1 + 1))] 65)) := ((((Below.refl _ w1).alloc (Nat.le_refl _) _).alloc (by simp) _).alloc (by first | (simp; done) | (simp; omega)) _).alloc (by first | (simp; done) | (simp; omega)) _
  have hA0 : ((((w1.alloc (.cells #[.string ⟨#[]⟩] 9)).alloc (.cells #[.bool false] 4)).alloc (.map #[] 0)).alloc (.cells #[.map (some (w1.heap.size + 1 + 1))] 65)).heap[w1.heap.size]? = some (.cells #[.string ⟨#[]⟩] 9 (0, 0)) := (Below.heap_alloc _ _ _ (by first | (simp; done) | (simp; omega))).trans ((Below.heap_alloc _ _ _ (by first | (simp; done) | (simp; omega))).trans ((Below.heap_alloc _ _ _ (by simp)).trans (World.alloc_heap_new w1 _)))
  have hA1 : ((((w1.alloc (.cells #[.string ⟨#[]⟩] 9)).alloc (.cells #[.bool false] 4)).alloc (.map #[] 0)).alloc (.cells #[.map (some (w1.heap.size + 1 + 1))] 65)).heap[w1.heap.size + 1]? = some (.cells #[.bool false] 4 (0, 0)) := by
    have := World.alloc_heap_new (w1.alloc (.cells #[.string ⟨#[]⟩] 9)) (.cells #[.bool false] 4)
    rw [World.size_alloc] at this
    exact (Below.heap_alloc _ _ _ (by first | (simp; done) | (simp; omega))).trans ((Below.heap_alloc _ _ _ (by simp)).trans this)
  have hA2 : ((((w1.alloc (.cells #[.string ⟨#[]⟩] 9)).alloc (.cells #[.bool false] 4)).alloc (.map #[] 0)).alloc (.cells #[.map (some (w1.heap.size + 1 + 1))] 65)).heap[w1.heap.size + 1 + 1]? = some (Ct.mapO []) := by
    have := World.alloc_heap_new ((w1.alloc (.cells #[.string ⟨#[]⟩] 9)).alloc (.cells #[.bool false] 4)) (.map #[] 0)
    rw [World.size_alloc, World.size_alloc] at this
    exact (Below.heap_alloc _ _ _ (by simp)).trans this
  have hA3 : ((((w1.alloc (.cells #[.string ⟨#[]⟩] 9)).alloc (.cells #[.bool false] 4)).alloc (.map #[] 0)).alloc (.cells #[.map (some (w1.heap.size + 1 + 1))] 65)).heap[w1.heap.size + 1 + 1 + 1]? = some (.cells #[.map (some (w1.heap.size + 1 + 1))] 65 (0, 0)) := by
    have := World.alloc_heap_new (((w1.alloc (.cells #[.string ⟨#[]⟩] 9)).alloc (.cells #[.bool false] 4)).alloc (.map #[] 0)) (.cells #[.map (some (w1.heap.size + 1 + 1))] 65)
    rw [World.size_alloc, World.size_alloc, World.size_alloc] at this
    exact this
  have hS4 : ((((w1.alloc (.cells #[.string ⟨#[]⟩] 9)).alloc (.cells #[.bool false] 4)).alloc (.map #[] 0)).alloc (.cells #[.map (some (w1.heap.size + 1 + 1))] 65)).heap.size = w1.heap.size + 1 + 1 + 1 + 1 := by simp
  have hb5 := hbA.trans (hb4.mono (by omega))
  have hrB := (hb4.block w.heap.size hsA).trans hr1
  generalize ((((w1.alloc (.cells #[.string ⟨#[]⟩] 9)).alloc (.cells #[.bool false] 4)).alloc (.map #[] 0)).alloc (.cells #[.map (some (w1.heap.size + 1 + 1))] 65)) = V at *
  obtain ⟨A, hA⟩ : ∃ A, w1.heap.size = A := ⟨_, rfl⟩
  rw [hA] at hA0 hA1 hA2 hA3 hS4 hsA ⊢
  have y0 : V.cell? ⟨w.heap.size, 0, none⟩ = some (.slice a0 len c0) := cell_ofW hrB rfl
  clear hb4 hr1 hbA x0 hA
  go_step3
  go_wp2_with (first
    | (go_at_call 31; refine (btVoted _ _ _ _).mono ?_; rintro e w' ⟨rfl, rfl⟩))
  refine (wpIn_wide (n := 3)).1 ?_
  have b1 := Boxed.new V 33 (.slice a0 len c0)
  have hB0' : Below w.heap.size w (V.alloc (.cells #[.slice a0 len c0] 33)) := hb5.alloc hb5.size _
  have k0 := (Below.heap_alloc V (.cells #[.slice a0 len c0] 33) A (by omega)).trans hA0
  have k1 := (Below.heap_alloc V (.cells #[.slice a0 len c0] 33) (A + 1) (by omega)).trans hA1
  have k2 := (Below.heap_alloc V (.cells #[.slice a0 len c0] 33) (A + 1 + 1) (by omega)).trans hA2
  have k3 := (Below.heap_alloc V (.cells #[.slice a0 len c0] 33) (A + 1 + 1 + 1) (by omega)).trans hA3
  have kB := (Below.heap_alloc V (.cells #[.slice a0 len c0] 33) w.heap.size (by omega)).trans hrB
  have hsz0 : (V.alloc (.cells #[.slice a0 len c0] 33)).heap.size = A + 5 := by rw [World.size_alloc]; omega
  rw [hS4] at b1
  have hgoes := votedGoes (3 - 1) (by omega) w.heap.size _ (A + 1 + 1 + 1 + 1) (.slice a0 len c0) l (by omega) b1.cell (HT.out.below hB0') HLT.out hB0'.size (by have := HL.out; omega)
  generalize (V.alloc (.cells #[.slice a0 len c0] 33)) = W0 at *
  clear b1 hA0 hA1 hA2 hA3 hS4 hb5 hrB HT HLT y0 hmm HG HS
  refine wpIn_goes_boxed rfl (by omega) (gf := 33) (lb := #[.pointer (some ⟨A + 1 + 1 + 1 + 1, 0, none⟩)]) rfl trivial (enters_of Try.func33 (by kernel_rfl) rfl)
    hgoes (by rintro b h; have : b < w.heap.size := h; omega) (Below.refl _ _) (fun _ => rfl)
    (fun k W => (∃ cs, Counts l k cs ∧ W.heap[A + 1 + 1]? = some (Ct.mapO cs)) ∧ W.heap[A]? = some (.cells #[.string ⟨#[]⟩] 9 (0, 0)) ∧ W.heap[A + 1]? = some (.cells #[.bool false] 4 (0, 0)) ∧ W.heap[A + 1 + 1 + 1]? = some (.cells #[.map (some (A + 1 + 1))] 65 (0, 0)) ∧ W.heap[w.heap.size]? = some (.cells #[.slice a0 len c0] 33 (0, 0)) ∧ Below w.heap.size w W ∧ A + 5 ≤ W.heap.size)
    (fun cc k W => cc = .exit 1 ∧ W.heap[A]? = some (.cells #[.string (Bt.decS l)] 9 (0, 0)) ∧ W.heap[A + 1]? = some (.cells #[.bool (Bt.decB l)] 4 (0, 0)) ∧ Below w.heap.size w W ∧ A + 5 ≤ W.heap.size)
    (OwnFrom.and (obj_kept (M := A + 1 + 1) (by omega) _ (fun k X Y h1 h2 ⟨cs, h3, h4⟩ => ⟨cs, h3, h1.trans h4⟩) (fun k X ⟨cs, h3, h4⟩ => (Array.getElem?_eq_some_iff.1 h4).1)) (OwnFrom.and (row_kept (fun k => _)) (OwnFrom.and (row_kept (fun k => _)) (OwnFrom.and (row_kept (fun k => _)) (OwnFrom.and (row_kept (fun k => _)) (OwnFrom.and (ownFrom_below (by omega) (by omega)) (fun _ X Y row hs hg _ => Nat.le_trans hs hg.size)))))))
    (fun cc => OwnFrom.and (ownFrom_pure _ _) (OwnFrom.and (row_kept (fun k => _)) (OwnFrom.and (row_kept (fun k => _)) (OwnFrom.and (ownFrom_below (by omega) (by omega)) (fun _ X Y row hs hg _ => Nat.le_trans hs hg.size)))))
    (by rintro k W ⟨_, _, _, _, _, _, h⟩; omega)
    ⟨⟨[], Counts.start l, k2⟩, k0, k1, k3, kB, hB0', by omega⟩
    (fun x => #[.int .u64 (x.prom : Int), .int .u64 (x.bal : Int), .string x.val']) 24
    (fun b W => True) (fun _ _ _ _ h _ _ => h) (fun _ _ _ _ => trivial)
    ⟨_, (by intro l x b W K hb hK; dsimp only [encV, Vt.val]; gi_wp2; exact hK), ?body⟩ ?done ?stop
  case body =>
    rintro lp k ⟨xp, xb, xs⟩ b W hx ⟨⟨cs, hcs, hmp⟩, hR0, hR1, hR3, hRB, hBw, hsz⟩ hbs hrx -
    dsimp only at hrx
    obtain ⟨hxm, hxv⟩ := mem_vd hx
    have hxs := (HRR.out _ hxm).2.2
    dsimp only at hxs
    have x0 : W.cell? ⟨b, 0, none⟩ = some (.int .u64 (xp : Int)) := cell_ofW hrx rfl
    have x1 : W.cell? ⟨b, 1, none⟩ = some (.int .u64 (xb : Int)) := cell_ofW hrx rfl
    have x2 : W.cell? ⟨b, 2, none⟩ = some (.string xs) := cell_ofW hrx rfl
    have hq16 := hcs.small xb xs
    rw [HL.out] at hq16
    have HWON := Lib.hid (fun hn => hcs.won HRR.out HEE.out hx hn)
    have HNX := Lib.hid (fun hn => hcs.next hx hn)
    dsimp only at HWON HNX
    rw [HL.out] at HWON HNX
    obtain ⟨G, hG⟩ : ∃ G, W.heap.size = G := ⟨_, rfl⟩
    obtain ⟨V1, hV1⟩ : ∃ V1, W.alloc (.cells #[.int .u64 (xb : Int), .string xs] 67) = V1 := ⟨_, rfl⟩
    have hbV : Below W.heap.size W V1 := hV1 ▸ (Below.refl _ W).alloc (Nat.le_refl _) _
    have hGr : V1.heap[G]? = some (.cells #[.int .u64 (xb : Int), .string xs] 67 (0, 0)) := by rw [← hV1, ← hG]; exact World.alloc_heap_new W _
    have hs1 : V1.heap.size = G + 1 := by rw [← hV1, ← hG]; simp
    have hmp1 : V1.heap[A + 1 + 1]? = some (Ct.mapO cs) := (hbV.block _ (by omega)).trans hmp
    have hR31 : V1.heap[A + 1 + 1 + 1]? = some (.cells #[.map (some (A + 1 + 1))] 65 (0, 0)) := (hbV.block _ (by omega)).trans hR3
    have hlk : ∀ X : World, X.heap[A + 1 + 1]? = some (Ct.mapO cs) → (Instr.lookup 65 (.map (some (A + 1 + 1))) (.agg #[.int .u64 (xb : Int), .string xs]) false).run Try.prog X = .ok (.int .i64 (Ct.ask cs xb xs : Int)) X := fun X hX => Ct.look hX xb xs
    have hlk1 : ∀ X : World, X.heap[A + 1 + 1]? = some (Ct.mapO (Ct.ent cs xb xs)) → (Instr.lookup 65 (.map (some (A + 1 + 1))) (.agg #[.int .u64 (xb : Int), .string xs]) false).run Try.prog X = .ok (.int .i64 (Ct.ask cs xb xs : Int)) X := fun X hX => by rw [← Ct.ask_ent cs xb xs]; exact Ct.look hX xb xs
    have hen : (Instr.mapEntry 65 (.map (some (A + 1 + 1))) (.agg #[.int .u64 (xb : Int), .string xs])).run Try.prog V1.drew = .ok (.tuple #[.int .i64 (Ct.ask cs xb xs : Int), .int .i64 (Ct.place cs xb xs : Int)]) (V1.drew.putObj (A + 1 + 1) (Ct.mapO (Ct.ent cs xb xs))) := Ct.entryE (w := V1.drew) hmp1 xb xs
    have hml : A + 1 + 1 < V1.drew.heap.size := by show A + 1 + 1 < V1.heap.size; omega
    have hmp2 : (V1.drew.putObj (A + 1 + 1) (Ct.mapO (Ct.ent cs xb xs))).heap[A + 1 + 1]? = some (Ct.mapO (Ct.ent cs xb xs)) := World.putObj_heap_same hml
    have hst : (Instr.entryStore 65 (.map (some (A + 1 + 1))) (.int .i64 (Ct.place cs xb xs : Int)) (.int .i64 ((Ct.ask cs xb xs : Int) + 1))).run Try.prog (V1.drew.putObj (A + 1 + 1) (Ct.mapO (Ct.ent cs xb xs))) = .ok () ((V1.drew.putObj (A + 1 + 1) (Ct.mapO (Ct.ent cs xb xs))).putObj (A + 1 + 1) (Ct.mapO (Ct.bump cs xb xs))) := by
      have := Ct.storeE xb xs hmp2
      push_cast at this
      exact this
    have oth : ∀ j, j ≠ A + 1 + 1 → ((V1.drew.putObj (A + 1 + 1) (Ct.mapO (Ct.ent cs xb xs))).putObj (A + 1 + 1) (Ct.mapO (Ct.bump cs xb xs))).heap[j]? = V1.heap[j]? := fun j hj => (World.putObj_heap_other hj).trans (World.putObj_heap_other hj)
    have oth1 : ∀ j, j ≠ A + 1 + 1 → (V1.drew.putObj (A + 1 + 1) (Ct.mapO (Ct.ent cs xb xs))).heap[j]? = V1.heap[j]? := fun j hj => World.putObj_heap_other hj
    have hsz2 : ((V1.drew.putObj (A + 1 + 1) (Ct.mapO (Ct.ent cs xb xs))).putObj (A + 1 + 1) (Ct.mapO (Ct.bump cs xb xs))).heap.size = G + 1 := by simp [World.putObj, hs1]
    have hm2 : ((V1.drew.putObj (A + 1 + 1) (Ct.mapO (Ct.ent cs xb xs))).putObj (A + 1 + 1) (Ct.mapO (Ct.bump cs xb xs))).heap[A + 1 + 1]? = some (Ct.mapO (Ct.bump cs xb xs)) := World.putObj_heap_same (by simp [World.putObj]; omega)
    have hKF : KeepsFrom W0.heap.size W ((V1.drew.putObj (A + 1 + 1) (Ct.mapO (Ct.ent cs xb xs))).putObj (A + 1 + 1) (Ct.mapO (Ct.bump cs xb xs))) := ((from_below' (hbV.drew)).trans (putObj_from (by omega))).trans (putObj_from (by omega))
    have hBw2 : Below w.heap.size w ((V1.drew.putObj (A + 1 + 1) (Ct.mapO (Ct.ent cs xb xs))).putObj (A + 1 + 1) (Ct.mapO (Ct.bump cs xb xs))) := putObj_below (putObj_below ((hBw.trans (hbV.mono (by omega))).drew) (by omega)) (by omega)
    have hKK : Keeps (· < w.heap.size) W ((V1.drew.putObj (A + 1 + 1) (Ct.mapO (Ct.ent cs xb xs))).putObj (A + 1 + 1) (Ct.mapO (Ct.bump cs xb xs))) := fun j hj => (oth j (by have : j < w.heap.size := hj; omega)).trans (hbV.block j (by have : j < w.heap.size := hj; omega))
    have hlk2 : (Instr.lookup 65 (.map (some (A + 1 + 1))) (.agg #[.int .u64 (xb : Int), .string xs]) false).run Try.prog ((V1.drew.putObj (A + 1 + 1) (Ct.mapO (Ct.ent cs xb xs))).putObj (A + 1 + 1) (Ct.mapO (Ct.bump cs xb xs))).drew = .ok (.int .i64 ((Ct.ask cs xb xs : Int) + 1)) ((V1.drew.putObj (A + 1 + 1) (Ct.mapO (Ct.ent cs xb xs))).putObj (A + 1 + 1) (Ct.mapO (Ct.bump cs xb xs))).drew := by
      have := Ct.look (w := ((V1.drew.putObj (A + 1 + 1) (Ct.mapO (Ct.ent cs xb xs))).putObj (A + 1 + 1) (Ct.mapO (Ct.bump cs xb xs))).drew) hm2 xb xs
      rw [Ct.ask_bump, if_pos ⟨rfl, rfl⟩] at this
      push_cast at this
      exact this
    have HS0 := Lib.hid (show V1.drew.cell? ⟨A + 1 + 1 + 1, 0, none⟩ = some (.map (some (A + 1 + 1))) ∧ V1.drew.cell? ⟨G, 0, none⟩ = some (.int .u64 (xb : Int)) ∧ V1.drew.cell? ⟨G, 1, none⟩ = some (.string xs) ∧ (Instr.lookup 65 (.map (some (A + 1 + 1))) (.agg #[.int .u64 (xb : Int), .string xs]) false).run Try.prog V1.drew = .ok (.int .i64 (Ct.ask cs xb xs : Int)) V1.drew from ⟨cell_ofW (w := V1.drew) hR31 rfl, cell_ofW (w := V1.drew) hGr rfl, cell_ofW (w := V1.drew) hGr rfl, hlk V1.drew hmp1⟩)
    have e31 := (oth1 (A + 1 + 1 + 1) (by omega)).trans hR31
    have eG1 := (oth1 G (by omega)).trans hGr
    have HS1 := Lib.hid (show (V1.drew.putObj (A + 1 + 1) (Ct.mapO (Ct.ent cs xb xs))).cell? ⟨A + 1 + 1 + 1, 0, none⟩ = some (.map (some (A + 1 + 1))) ∧ (V1.drew.putObj (A + 1 + 1) (Ct.mapO (Ct.ent cs xb xs))).cell? ⟨G, 0, none⟩ = some (.int .u64 (xb : Int)) ∧ (V1.drew.putObj (A + 1 + 1) (Ct.mapO (Ct.ent cs xb xs))).cell? ⟨G, 1, none⟩ = some (.string xs) ∧ (Instr.lookup 65 (.map (some (A + 1 + 1))) (.agg #[.int .u64 (xb : Int), .string xs]) false).run Try.prog (V1.drew.putObj (A + 1 + 1) (Ct.mapO (Ct.ent cs xb xs))) = .ok (.int .i64 (Ct.ask cs xb xs : Int)) (V1.drew.putObj (A + 1 + 1) (Ct.mapO (Ct.ent cs xb xs))) from ⟨cell_ofW e31 rfl, cell_ofW eG1 rfl, cell_ofW eG1 rfl, hlk1 _ hmp2⟩)
    have e32 := (oth (A + 1 + 1 + 1) (by omega)).trans hR31
    have eG2 := (oth G (by omega)).trans hGr
    have e02 := (oth A (by omega)).trans ((hbV.block A (by omega)).trans hR0)
    have e12 := (oth (A + 1) (by omega)).trans ((hbV.block (A + 1) (by omega)).trans hR1)
    have eB2 := (oth w.heap.size (by omega)).trans ((hbV.block w.heap.size (by omega)).trans hRB)
    clear oth oth1 hlk hlk1 hmp1 hmp2 hml hR31 hGr hmp hR0 hR1 hR3 hRB e31 eG1 hbV hx hrx hxm hxv hgoes
    generalize hbm : Ct.bump cs xb xs = cb at *
    generalize Ct.mapO (Ct.ent cs xb xs) = E1 at *
    clear hbm
    generalize hE2 : Ct.mapO cb = E2 at *
    have HE2 := Lib.hid hE2
    clear hE2
    generalize Ct.ask cs xb xs = q at *
    generalize Ct.place cs xb xs = pl at *
    have hq1 : wrap64 ((q : Int) + 1) = (q : Int) + 1 := dec_wrap hq16 hn2
    have hq2 : IntKind.i64.wrap ((q : Int) + 1) = (q : Int) + 1 := dec_wrapI hq16 hn2
    gi_wp2
    try rw [hG]
    try rw [hV1]

    refine wpIn_region_end (fun X => X.cell? ⟨A + 1 + 1 + 1, 0, none⟩ = some (.map (some (A + 1 + 1))) ∧ X.cell? ⟨G, 0, none⟩ = some (.int .u64 (xb : Int)) ∧ X.cell? ⟨G, 1, none⟩ = some (.string xs) ∧ (Instr.lookup 65 (.map (some (A + 1 + 1))) (.agg #[.int .u64 (xb : Int), .string xs]) false).run Try.prog X = .ok (.int .i64 (q : Int)) X) 6 (by kernel_rfl) ?_
    change anyE _ _ _ _ _ _ _ _ 7 _ _ V1.drew
    have hO1 := wide_round (P := Try.prog) lp
    refine anyE_take hO1 0 (v := .map (some (A + 1 + 1))) rfl (by kernel_rfl) (fun _ _ _ h => h) HS0.out (Or.inl ⟨by rfl, fun X hX => by obtain ⟨x1, x2, x3, x4⟩ := hX; go_simp⟩) ?_
    try simp only [List.getElem_toArray, List.getElem_cons_zero, List.getElem_cons_succ, Act.put, List.setIfInBounds_toArray, List.set_cons_zero, List.set_cons_succ]
    refine anyE_take hO1 1 (v := .agg #[.int .u64 (xb : Int), .string xs]) rfl (by kernel_rfl) (fun _ _ _ h => h) HS0.out (Or.inl ⟨by rfl, fun X hX => by obtain ⟨x1, x2, x3, x4⟩ := hX; go_simp⟩) ?_
    try simp only [List.getElem_toArray, List.getElem_cons_zero, List.getElem_cons_succ, Act.put, List.setIfInBounds_toArray, List.set_cons_zero, List.set_cons_succ]
    refine anyE_take hO1 2 (v := .int .i64 (q : Int)) rfl (by kernel_rfl) (fun _ _ _ h => h) HS0.out (Or.inl ⟨by rfl, fun X hX => by obtain ⟨x1, x2, x3, x4⟩ := hX; go_simp⟩) ?_
    try simp only [List.getElem_toArray, List.getElem_cons_zero, List.getElem_cons_succ, Act.put, List.setIfInBounds_toArray, List.set_cons_zero, List.set_cons_succ]
    refine anyE_take hO1 3 (v := .int .i64 ((q : Int) + 1)) rfl (by kernel_rfl) (fun _ _ _ h => h) HS0.out (Or.inl ⟨by rfl, fun X hX => by obtain ⟨x1, x2, x3, x4⟩ := hX; go_simp⟩) ?_
    try simp only [List.getElem_toArray, List.getElem_cons_zero, List.getElem_cons_succ, Act.put, List.setIfInBounds_toArray, List.set_cons_zero, List.set_cons_succ]
    refine anyE_sole 4 rfl (by kernel_rfl) (fun K hK => ?_)
    go_simp
    refine hK _ _ (fun _ => HS1.out) ?_
    clear hK K
    try simp only [List.getElem_toArray, List.getElem_cons_zero, List.getElem_cons_succ, Act.put, List.setIfInBounds_toArray, List.set_cons_zero, List.set_cons_succ]
    refine anyE_take hO1 5 (v := .int .i64 (pl : Int)) rfl (by kernel_rfl) (fun _ _ _ h => h) HS1.out (Or.inl ⟨by rfl, fun X hX => by obtain ⟨x1, x2, x3, x4⟩ := hX; go_simp⟩) ?_
    try simp only [List.getElem_toArray, List.getElem_cons_zero, List.getElem_cons_succ, Act.put, List.setIfInBounds_toArray, List.set_cons_zero, List.set_cons_succ]
    refine anyE_sole 6 rfl (by kernel_rfl) (fun K hK => ?_)
    go_simp
    refine hK _ _ (fun h => absurd rfl h) ?_
    clear hK K
    refine anyE_done (by kernel_rfl) ?_
    try simp only [List.getElem_toArray, List.getElem_cons_zero, List.getElem_cons_succ, Act.put, List.setIfInBounds_toArray, List.set_cons_zero, List.set_cons_succ]

    obtain ⟨V2, hV2⟩ : ∃ V2, (V1.drew.putObj (A + 1 + 1) E1).putObj (A + 1 + 1) E2 = V2 := ⟨_, rfl⟩
    rw [hV2] at hsz2 hm2 hKF hBw2 hKK hlk2 e32 eG2 e02 e12 eB2 ⊢
    clear hst hen HS0 HS1 hV2 hV1
    have z3 : V2.drew.cell? ⟨A + 1 + 1 + 1, 0, none⟩ = some (.map (some (A + 1 + 1))) := cell_ofW (w := V2.drew) e32 rfl
    have zG0 : V2.drew.cell? ⟨G, 0, none⟩ = some (.int .u64 (xb : Int)) := cell_ofW (w := V2.drew) eG2 rfl
    have zG1 : V2.drew.cell? ⟨G, 1, none⟩ = some (.string xs) := cell_ofW (w := V2.drew) eG2 rfl
    have zB : V2.drew.cell? ⟨w.heap.size, 0, none⟩ = some (.slice a0 len c0) := cell_ofW (w := V2.drew) eB2 rfl
    have HMH := Lib.hid (btHalf (q + 1) (len : Int) (dec_small hq16 hn2) V2.drew)
    rw [show ((q + 1 : Nat) : Int) = (q : Int) + 1 from rfl] at HMH
    by_cases hwin : len < 2 * (q + 1)
    · obtain ⟨hdB, hdS⟩ := HWON.out hwin
      rw [dec_yes hwin] at HMH
      gi_wp2
      refine wpIn_region_held (fun X => X = V2.drew) (by kernel_rfl) ?_
      change anyH _ _ _ _ _ _ _ 6 _ _ V2.drew
      refine anyH_take hO1 0 (v := .map (some (A + 1 + 1))) rfl (by kernel_rfl) (fun _ _ _ h => h) rfl (Or.inl ⟨by rfl, fun X hX => by subst hX; go_simp⟩) ?_
      try simp only [List.getElem_toArray, List.getElem_cons_zero, List.getElem_cons_succ, Act.put, List.setIfInBounds_toArray, List.set_cons_zero, List.set_cons_succ]
      refine anyH_take hO1 1 (v := .agg #[.int .u64 (xb : Int), .string xs]) rfl (by kernel_rfl) (fun _ _ _ h => h) rfl (Or.inl ⟨by rfl, fun X hX => by subst hX; go_simp⟩) ?_
      try simp only [List.getElem_toArray, List.getElem_cons_zero, List.getElem_cons_succ, Act.put, List.setIfInBounds_toArray, List.set_cons_zero, List.set_cons_succ]
      refine anyH_take hO1 2 (v := .int .i64 ((q : Int) + 1)) rfl (by kernel_rfl) (fun _ _ _ h => h) rfl (Or.inl ⟨by rfl, fun X hX => by subst hX; go_simp⟩) ?_
      try simp only [List.getElem_toArray, List.getElem_cons_zero, List.getElem_cons_succ, Act.put, List.setIfInBounds_toArray, List.set_cons_zero, List.set_cons_succ]
      refine anyH_take hO1 3 (v := .slice a0 len c0) rfl (by kernel_rfl) (fun _ _ _ h => h) rfl (Or.inl ⟨by rfl, fun X hX => by subst hX; go_simp⟩) ?_
      try simp only [List.getElem_toArray, List.getElem_cons_zero, List.getElem_cons_succ, Act.put, List.setIfInBounds_toArray, List.set_cons_zero, List.set_cons_succ]
      refine anyH_take hO1 4 (v := .int .i64 (len : Int)) rfl (by kernel_rfl) (fun _ _ _ h => h) rfl (Or.inl ⟨by rfl, fun X hX => by subst hX; go_simp⟩) ?_
      try simp only [List.getElem_toArray, List.getElem_cons_zero, List.getElem_cons_succ, Act.put, List.setIfInBounds_toArray, List.set_cons_zero, List.set_cons_succ]
      refine anyH_sole 5 rfl (by kernel_rfl) (fun K hK => ?_)
      go_simp
      refine ⟨trivial, (CallsIn.inRound lp (callsIn_wide.2 HMH.out)).mono ?_⟩
      rintro e w5 ⟨rfl, rfl⟩
      refine hK _ _ rfl ?_
      clear hK K
      refine anyH_done (by kernel_rfl) ?_
      try simp only [List.getElem_toArray, List.getElem_cons_zero, List.getElem_cons_succ, Act.put, List.setIfInBounds_toArray, List.set_cons_zero, List.set_cons_succ]

      have HCL := Lib.hid (fun W => Try.strings_Clone xs W (by omega))
      have HK6 := Lib.hid (fun (w6 : World) (hb6 : Below V2.drew.heap.size V2.drew w6) => show (w6.heap[A]? = some (.cells #[.string ⟨#[]⟩] 9 (0, 0)) ∧ w6.heap[A + 1]? = some (.cells #[.bool false] 4 (0, 0))) ∧ KeepsFrom W0.heap.size W ((w6.setCell ⟨A, 0, none⟩ (.string xs)).setCell ⟨A + 1, 0, none⟩ (.bool true)) ∧ Below w.heap.size w ((w6.setCell ⟨A, 0, none⟩ (.string xs)).setCell ⟨A + 1, 0, none⟩ (.bool true)) ∧ A + 5 ≤ ((w6.setCell ⟨A, 0, none⟩ (.string xs)).setCell ⟨A + 1, 0, none⟩ (.bool true)).heap.size from
        ⟨⟨(hb6.block A (by show A < V2.heap.size; omega)).trans e02, (hb6.block (A + 1) (by show A + 1 < V2.heap.size; omega)).trans e12⟩, ((hKF.trans ((KeepsOthers.drew V2).from _)).trans (from_below' hb6)).trans (((KeepsOthers.setCell _ _ _).trans (KeepsOthers.setCell _ _ _)).from _),
          (((hBw2.drew).trans (hb6.mono hBw2.size)).setCell (p := ⟨A, 0, none⟩) (by show w.heap.size ≤ A; omega) _).setCell (p := ⟨A + 1, 0, none⟩) (by show w.heap.size ≤ A + 1; omega) _, by have h1 := hb6.size; have h2 : V2.drew.heap.size = G + 1 := hsz2; simp; omega⟩)
      gi_wp2_with (first
        | (refine ⟨trivial, ?_⟩; gi_at_call 25; refine (CallsIn.inRound lp (callsIn_wide.2 (HCL.out _))).mono ?_; rintro e w6 ⟨rfl, hb6⟩; obtain ⟨⟨f0, f1⟩, hend⟩ := HK6.out w6 hb6; have g0 := row_thawed f0 0; have g1 := row_thawed f1 0; have g2 : w6.cell? ⟨A, 0, none⟩ = some (.string ⟨#[]⟩) := cell_ofW f0 rfl; have g3 : w6.cell? ⟨A + 1, 0, none⟩ = some (.bool false) := cell_ofW f1 rfl))
      obtain ⟨h1, h2, h3⟩ := hend
      refine ⟨h1, rfl, ?_, ?_, h2, h3⟩
      · rw [hdS]
        exact (Below.heap_setCell _ _ _ A (by simp)).trans (row_setB f0 0 (.string xs))
      · rw [hdB]
        exact row_setB ((Below.heap_setCell _ _ _ (A + 1) (by simp)).trans f1) 0 (.bool true)
    · have hnx := HNX.out hwin
      rw [dec_no hwin] at HMH
      gi_wp2
      refine wpIn_region_held (fun X => X = V2.drew) (by kernel_rfl) ?_
      change anyH _ _ _ _ _ _ _ 6 _ _ V2.drew
      refine anyH_take hO1 0 (v := .map (some (A + 1 + 1))) rfl (by kernel_rfl) (fun _ _ _ h => h) rfl (Or.inl ⟨by rfl, fun X hX => by subst hX; go_simp⟩) ?_
      try simp only [List.getElem_toArray, List.getElem_cons_zero, List.getElem_cons_succ, Act.put, List.setIfInBounds_toArray, List.set_cons_zero, List.set_cons_succ]
      refine anyH_take hO1 1 (v := .agg #[.int .u64 (xb : Int), .string xs]) rfl (by kernel_rfl) (fun _ _ _ h => h) rfl (Or.inl ⟨by rfl, fun X hX => by subst hX; go_simp⟩) ?_
      try simp only [List.getElem_toArray, List.getElem_cons_zero, List.getElem_cons_succ, Act.put, List.setIfInBounds_toArray, List.set_cons_zero, List.set_cons_succ]
      refine anyH_take hO1 2 (v := .int .i64 ((q : Int) + 1)) rfl (by kernel_rfl) (fun _ _ _ h => h) rfl (Or.inl ⟨by rfl, fun X hX => by subst hX; go_simp⟩) ?_
      try simp only [List.getElem_toArray, List.getElem_cons_zero, List.getElem_cons_succ, Act.put, List.setIfInBounds_toArray, List.set_cons_zero, List.set_cons_succ]
      refine anyH_take hO1 3 (v := .slice a0 len c0) rfl (by kernel_rfl) (fun _ _ _ h => h) rfl (Or.inl ⟨by rfl, fun X hX => by subst hX; go_simp⟩) ?_
      try simp only [List.getElem_toArray, List.getElem_cons_zero, List.getElem_cons_succ, Act.put, List.setIfInBounds_toArray, List.set_cons_zero, List.set_cons_succ]
      refine anyH_take hO1 4 (v := .int .i64 (len : Int)) rfl (by kernel_rfl) (fun _ _ _ h => h) rfl (Or.inl ⟨by rfl, fun X hX => by subst hX; go_simp⟩) ?_
      try simp only [List.getElem_toArray, List.getElem_cons_zero, List.getElem_cons_succ, Act.put, List.setIfInBounds_toArray, List.set_cons_zero, List.set_cons_succ]
      refine anyH_sole 5 rfl (by kernel_rfl) (fun K hK => ?_)
      go_simp
      refine ⟨trivial, (CallsIn.inRound lp (callsIn_wide.2 HMH.out)).mono ?_⟩
      rintro e w5 ⟨rfl, rfl⟩
      refine hK _ _ rfl ?_
      clear hK K
      refine anyH_done (by kernel_rfl) ?_
      try simp only [List.getElem_toArray, List.getElem_cons_zero, List.getElem_cons_succ, Act.put, List.setIfInBounds_toArray, List.set_cons_zero, List.set_cons_succ]

      gi_wp2
      exact ⟨hKF.trans ((KeepsOthers.drew V2).from _), hKK, ⟨cb, hnx, by rw [HE2.out]; exact hm2⟩, e02, e12, e32, eB2, hBw2.drew, by show A + 5 ≤ V2.heap.size; omega⟩
  case done =>
    rintro D W hD ⟨⟨cs, hcs, -⟩, r0, r1, -, -, hBw, hsz⟩ hK
    have HCS := Lib.hid hcs.none
    clear hcs
    have y0 : W.cell? ⟨A, 0, none⟩ = some (.string ⟨#[]⟩) := cell_ofW r0 rfl
    have y1 : W.cell? ⟨A + 1, 0, none⟩ = some (.bool false) := cell_ofW r1 rfl
    have HBW := Lib.hid hBw
    have HKD := Lib.hid hK
    clear hBw hK hgoes k0 k1 k2 k3 kB hB0'
    gi_wp2
    go_wp2
    go_quiet (fail)
    go_wp2
    try rw [Exit.noGoto_ret]
    have hKn : (W.drewN nq).heap[D]? = some (.deferred (some [])) := HKD.out
    refine ⟨by simp, .inl ⟨_, _, rfl, run_takeDeferred hKn, ?_⟩⟩
    exact ⟨_, results_tmp3 rfl _ _ _, by rw [HCS.out.1, HCS.out.2]; rfl, (drewN_below HBW.out nq).trans (belowK_b (w := w) (by omega) _ D _ _ (by omega) hKn rfl rfl)⟩
  case stop =>
    rintro D cc k W hD hk ⟨rfl, r0, r1, hBw, hsz⟩ hK
    obtain ⟨sv, hsv⟩ : ∃ sv, Bt.decS l = sv := ⟨_, rfl⟩
    obtain ⟨bv, hbv⟩ : ∃ bv, Bt.decB l = bv := ⟨_, rfl⟩
    rw [hsv] at r0
    rw [hbv] at r1
    have HSV := Lib.hid hsv
    have HBV := Lib.hid hbv
    clear hsv hbv
    have y0 : W.cell? ⟨A, 0, none⟩ = some (.string sv) := cell_ofW r0 rfl
    have y1 : W.cell? ⟨A + 1, 0, none⟩ = some (.bool bv) := cell_ofW r1 rfl
    have HBW := Lib.hid hBw
    have HKD := Lib.hid hK
    clear hBw hK hgoes k0 k1 k2 k3 kB hB0'
    gi_wp2
    go_wp2
    go_quiet (fail)
    go_wp2
    try rw [Exit.noGoto_ret]
    have hKn : (W.drewN nq).heap[D]? = some (.deferred (some [])) := HKD.out
    refine ⟨by simp, .inl ⟨_, _, rfl, run_takeDeferred hKn, ?_⟩⟩
    exact ⟨_, results_tmp3 rfl _ _ _, by rw [HSV.out, HBV.out]; rfl, (drewN_below HBW.out nq).trans (belowK_b (w := w) (by omega) _ D _ _ (by omega) hKn rfl rfl)⟩
set_option maxRecDepth 100000 in
set_option maxHeartbeats 1000000 in
theorem btDecided (v0 : Value) (l : List Vt) (w : World) (hT : VtsR w v0 l) (hl : l.length ≤ 1000000) (hsz : ∀ v ∈ l, v.val'.size ≤ 1000000) :
    Calls Try.prog 21 #[v0] w fun e w' => e = .returned (.tuple #[.string (Bt.decS l), .bool (Bt.decB l), .int .i64 (Bt.decE l)]) ∧ Below w.heap.size w w' := by
  by_cases hok : (1 ≤ l.length ∧ l.length ≤ 16) ∧ ∀ v ∈ l, Bt.Right v
  · obtain ⟨⟨h1, h2⟩, h6⟩ := hok
    have hE : Bt.decE l = 0 := by unfold Bt.decE; rw [if_pos ⟨h1, h2⟩, if_pos h6]
    rw [hE]
    exact btDecidedOk v0 l w hT h1 h2 h6
  · obtain ⟨a0, c0, rfl⟩ := hT.form
    have HS := Lib.hid (fun (W : World) (hb : Below w.heap.size w W) => btSound (.slice a0 l.length c0) l none 0 0 true W (hT.below hb) hl hsz (fun W' _ => btFit0 W'))
    have HG := Lib.hid (fun W => btGroup (l.length : Int) W)
    have hW : Bt.decE l ≠ 0 → Bt.decS l = ⟨#[]⟩ ∧ Bt.decB l = false := fun h => by
      have : Bt.winner l = none := if_neg h
      exact ⟨by unfold Bt.decS; rw [this]; rfl, by unfold Bt.decB; rw [this]; rfl⟩
    by_cases hg : 1 ≤ l.length ∧ l.length ≤ 16
    · have hE : Bt.decE l = 2 := by unfold Bt.decE; rw [if_pos hg, if_neg (fun h => hok ⟨hg, h⟩)]
      obtain ⟨hS, hB⟩ := hW (by rw [hE]; decide)
      rw [hE, hS, hB]
      rw [decide_eq_true (show 1 ≤ (l.length : Int) ∧ (l.length : Int) ≤ 16 from ⟨by omega, by omega⟩)] at HG
      rw [decide_eq_false (fun h => hok ⟨hg, h⟩)] at HS
      clear hok hE hS hB hW hT hsz hg
      generalize l.length = len at *
      go_enter Try.func21, Try.ntmps21
      go_wp2
      go_step3
      go_wp2_with (first
        | (go_at_call 28; refine (HG.out _).mono ?_; rintro e w1 ⟨rfl, rfl⟩)
        | (go_at_call 30; refine (HS.out _ ((Below.refl _ w).alloc (Nat.le_refl _) _)).mono ?_; rintro e w1 ⟨rfl, hb1⟩))
      try rw [Exit.noGoto_ret]
      go_ret3
      exact ⟨rfl, ((Below.refl _ w).alloc (Nat.le_refl _) _).trans (hb1.mono (by simp))⟩
    · have hE : Bt.decE l = 81 := by unfold Bt.decE; rw [if_neg hg]
      obtain ⟨hS, hB⟩ := hW (by rw [hE]; decide)
      rw [hE, hS, hB]
      rw [decide_eq_false (show ¬ (1 ≤ (l.length : Int) ∧ (l.length : Int) ≤ 16) from fun h => hg ⟨by omega, by omega⟩)] at HG
      clear hok hE hS hB hW hT hsz hg HS
      generalize l.length = len at *
      go_enter Try.func21, Try.ntmps21
      go_wp2
      go_step3
      go_wp2_with (first
        | (go_at_call 28; refine (HG.out _).mono ?_; rintro e w1 ⟨rfl, rfl⟩)
        | (go_at_call 30; refine (HS.out _ ((Below.refl _ w).alloc (Nat.le_refl _) _)).mono ?_; rintro e w1 ⟨rfl, hb1⟩))
      try rw [Exit.noGoto_ret]
      go_ret3
      exact ⟨rfl, (Below.refl _ w).alloc (Nat.le_refl _) _⟩
end Go.Proofs.Ytigameebcicgpaa
