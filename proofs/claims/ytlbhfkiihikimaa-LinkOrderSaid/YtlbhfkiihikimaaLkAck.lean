/-
  acknowledge: walked.
-/
import Derived.Test.YtlbhfkiihikimaaLkPend
import Derived.Test.YtlbhfkiihikimaaLkTake
namespace Go.Proofs.Ytlbhfkiihikimaa
open Go.RowKit Go.Shelf
attribute [local go_sem] Oper.semAt_some
set_option linter.unusedVariables false
set_option linter.unusedSimpArgs false

theorem acked_shed {L : Lk} {f : Fr} {A : Nat} (h1 : f.life = L.life) (hA : f.ack.toNat = A) (k : Nat) (hk : k ≤ L.out.length) (hc : k = 0 ∨ L.base + k ≤ A) (he : k = L.out.length ∨ A < L.base + k + 1) (ht : A ≤ L.top) : L.acked f = L.shed k := by
  unfold Lk.acked Lk.shed
  rw [hA, if_pos ⟨h1, ht⟩]
  unfold Lk.top at ht
  have e : A - L.base = k := by omega
  have e2 : max L.base A = L.base + k := by omega
  rw [e, e2]
/-- What holds behind k rounds. -/
structure AckI (L : Lk) (A B M n₀ : Nat) (FC : Array Value) (w : World) (k : Nat) (W : World) : Prop where
  le : k ≤ L.out.length
  ack : k = 0 ∨ L.base + k ≤ A
  is : Lk.Is (L.shed k) B M W
  t : Row W n₀ #[.pointer (some ⟨B, 3, none⟩)] 67
  f : Row W (n₀ + 1) FC 24
  z : Row W (n₀ + 1 + 1) #[.pointer (some ⟨B, 3, none⟩)] 67
  st : Stays B (some M) w W
theorem AckI.own {L : Lk} {A B M n₀ n : Nat} {FC : Array Value} {w : World} (hB : B < n) (hM : M < n) (hw : w.heap.size ≤ n) : OwnFrom n (AckI L A B M n₀ FC w) := fun k X Y row h hg hr => by
  have hb : ∀ b, b < n → Y.heap[b]? = X.heap[b]? ∨ ¬ b < X.heap.size := fun b hb => by
    by_cases hl : b < X.heap.size
    · exact .inl (hg.block b hl (fun e => by have := (hr b e.symm).1; omega))
    · exact .inr hl
  refine ⟨h.le, h.ack, h.is.keep ((hb B hB).resolve_right (fun hn => hn h.is.lt)) ((hb M hM).resolve_right (fun hn => hn h.is.ltM)), Row.own (β := Unit) _ (fun _ => _) _ () X Y row h.t hg (fun r e => (hr r e).2), Row.own (β := Unit) _ (fun _ => _) _ () X Y row h.f hg (fun r e => (hr r e).2), Row.own (β := Unit) _ (fun _ => _) _ () X Y row h.z hg (fun r e => (hr r e).2), ?_⟩
  refine ⟨hg.os.trans h.st.os, hg.tape.trans h.st.tape, hg.output.trans h.st.output, Nat.le_trans h.st.size hg.size, fun j hj h1 h2 => ?_⟩
  exact (hg.block j (Nat.lt_of_lt_of_le hj h.st.size) (fun e => by have := (hr j e.symm).1; omega)).trans (h.st.block j hj h1 h2)
theorem AckI.step {L : Lk} {A B M n₀ : Nat} {FC : Array Value} {w : World} {k : Nat} {W : World} (h : AckI L A B M n₀ FC w k W) (hk : k < L.out.length) (ha : L.base + k + 1 ≤ A) (hM : M < n₀) :
    ∃ O, (∀ ty, (Builtin.delete_ #[46, 22] ty #[.map (some M), Lk.num (L.base + k + 1)]).run Try.prog W = .ok (.tuple #[]) (W.putObj M O)) ∧
      AckI L A B M n₀ FC w (k + 1) (W.putObj M O) ∧ ∀ n, M < n → KeepsFrom n W (W.putObj M O) := by
  have ho : (L.shed k).out = L.out[k] :: L.out.drop (k + 1) := by simp [Lk.shed]
  have hd := fun ty => Lk.drop h.is.map L.out[k] (L.out.drop (k + 1)) ho ty
  have e : ({ L.shed k with base := (L.shed k).base + 1, out := L.out.drop (k + 1) } : Lk) = L.shed (k + 1) := by simp [Lk.shed, Nat.add_assoc]
  rw [e] at hd
  have hMl := h.is.ltM
  have hoth : ∀ b, b ≠ M → (W.putObj M (L.shed (k + 1)).mapO).heap[b]? = W.heap[b]? := fun b hb => World.putObj_heap_other (fun e => hb (by rw [e]))
  have ht : (L.shed (k + 1)).top = (L.shed k).top := by rw [Lk.shed_top _ _ (by omega), Lk.shed_top _ _ (by omega)]
  refine ⟨(L.shed (k + 1)).mapO, hd, ⟨hk, .inr (by omega), ⟨?_, World.putObj_heap_same hMl, h.is.ne, ⟨by rw [ht]; exact h.is.ok.few, h.is.ok.gots, fun s hs => h.is.ok.small s ?_⟩⟩, (hoth _ (by omega)).trans h.t, (hoth _ (by omega)).trans h.f, (hoth _ (by omega)).trans h.z, h.st.put _⟩, fun n hn => ⟨by simp [World.putObj], fun j o hj hjo _ => (hoth j (by omega)).trans hjo⟩⟩
  · refine (hoth _ h.is.ne).trans (h.is.row.trans ?_)
    have : (L.shed k).cells M = (L.shed (k + 1)).cells M := by
      unfold Lk.cells
      rw [ht]
      rfl
    rw [this]
  · rw [ho]
    exact List.mem_cons_of_mem _ hs
theorem AckI.finish {L : Lk} {A B M n₀ : Nat} {FC : Array Value} {w : World} {k : Nat} {W : World} (h : AckI L A B M n₀ FC w k W) {D : Nat} (hD : w.heap.size ≤ D) (hB : B < w.heap.size) (hM : M < w.heap.size) {o : Obj} : Lk.Turns (L.shed k) B M w (W.putObj D o) :=
  ⟨h.is.keep (World.putObj_heap_other (by omega)) (World.putObj_heap_other (by omega)), ⟨h.st.os, h.st.tape, h.st.output, by have := h.st.size; simpa [World.putObj] using this, fun j hj h1 h2 => (World.putObj_heap_other (by omega)).trans (h.st.block j hj h1 h2)⟩⟩
set_option maxRecDepth 100000 in
set_option maxHeartbeats 4000000 in
/-- acknowledge, of a frame that tells what was sent. -/
theorem lkAckYes (L : Lk) (B M : Nat) (f : Fr) (w : World) (h : Lk.Is L B M w) (h1 : f.life = L.life) (h2 : f.ack.toNat ≤ L.top) : Calls Try.prog 19 #[.pointer (some ⟨B, 3, none⟩), f.val] w fun e w' =>
    (∃ v, e = .returned v) ∧ Lk.Turns (L.acked f) B M w w' := by
  have c3 : w.cell? ⟨B, 3, none⟩ = some (.int .u32 (L.life.toNat : Int)) := h.cell 3 _ rfl
  have c5 : w.cell? ⟨B, 5, none⟩ = some (.int .u32 ((L.top : Int) + 1)) := h.cell 5 _ rfl
  have hB := h.lt
  have hM := h.ltM
  have hge : ¬ (L.top : Int) + 1 ≤ (f.ack.toNat : Int) := by omega
  have hge2 : decide ((L.top : Int) + 1 ≤ (f.ack.toNat : Int)) = false := decide_eq_false hge
  refine (callsIn_wide (n := 3)).1 ?_
  refine callsIn_of_wp_marks Try.func19 rfl trivial ?_ rfl
  simp only [Try.ntmps19, List.size_toArray, List.length_cons, List.length_nil, Nat.reduceAdd, Nat.reduceSub, Array.replicate_succ, Array.replicate_zero, List.push_toArray, List.append_toArray, List.nil_append, List.cons_append]
  refine wpIn_wide.2 ?_
  unfold Fr.val Fr.cells
  rw [h1]
  obtain ⟨A, hA⟩ : ∃ A, f.ack.toNat = A := ⟨_, rfl⟩
  have HAK := Lib.hid (show ∀ k, k ≤ L.out.length → (k = 0 ∨ L.base + k ≤ A) → (k = L.out.length ∨ A < L.base + k + 1) → L.acked f = L.shed k from fun k a b c => acked_shed h1 hA k a b c (hA ▸ h2))
  rw [hA] at hge hge2 h2 ⊢
  go_wp2
  go_step3
  go_wp2
  go_quiet (fail)
  go_wp2
  go_step3
  go_wp2_with (go_at_call 23; refine (lkPending _ _).mono ?_; rintro e w' ⟨rfl, rfl⟩)
  refine (wpIn_wide (n := 3)).1 ?_
  obtain ⟨FC, hFC⟩ : ∃ FC : Array Value, #[.int .i64 f.wire, .int .i64 f.kind, .int .i64 f.src, .int .i64 f.dst, .int .u32 (L.life.toNat : Int), .int .u32 (f.seq.toNat : Int), .int .u32 (A : Int), .int .u32 (f.hint.toNat : Int), .string f.data] = FC := ⟨_, rfl⟩
  have hFC6 : FC[6]? = some (.int .u32 (A : Int)) := by rw [← hFC]; rfl
  rw [hFC]
  obtain ⟨V, hV⟩ : ∃ V, ((((w.alloc (.cells #[.pointer (some ⟨B, 3, none⟩)] 67)).alloc (.cells FC 24)).drewN nq).alloc (.cells #[.pointer (some ⟨B, 3, none⟩)] 67)) = V := ⟨_, rfl⟩
  have hsz : V.heap.size = w.heap.size + 1 + 1 + 1 := by rw [← hV]; simp
  have hBV : Below w.heap.size w V := by rw [← hV]; exact (drewN_below (((Below.refl _ w).alloc (Nat.le_refl _) _).alloc (by simp) _) nq).alloc (by simp; omega) _
  have hT : Row V w.heap.size #[.pointer (some ⟨B, 3, none⟩)] 67 := by rw [← hV]; exact ((Row.new w _ _).alloc _).alloc _
  have hF : Row V (w.heap.size + 1) FC 24 := by
    rw [← hV]
    have := Row.new (w.alloc (.cells #[.pointer (some ⟨B, 3, none⟩)] 67)) FC 24
    rw [World.size_alloc] at this
    exact Row.alloc (W := (((w.alloc (.cells #[.pointer (some ⟨B, 3, none⟩)] 67)).alloc (.cells FC 24)).drewN nq)) this _
  have hZ : Row V (w.heap.size + 1 + 1) #[.pointer (some ⟨B, 3, none⟩)] 67 := by
    rw [← hV]
    have := Row.new (((w.alloc (.cells #[.pointer (some ⟨B, 3, none⟩)] 67)).alloc (.cells FC 24)).drewN nq) #[.pointer (some ⟨B, 3, none⟩)] 67
    simpa using this
  rw [hV]
  clear hV hFC
  have hgoes := pendGoes (3 - 1) (by omega) V L B M (w.heap.size + 1 + 1) (h.below hBV) (hZ.cell 0 _ rfl)
  have h0 : AckI L A B M w.heap.size FC w 0 V := ⟨Nat.zero_le _, .inl rfl, by rw [Lk.shed_zero]; exact h.below hBV, hT, hF, hZ, Stays.of_below hBV⟩
  refine wpIn_goesN_found rfl (by omega) (gf := 29) (lb := #[.pointer (some ⟨w.heap.size + 1 + 1, 0, none⟩)]) rfl trivial (enters_of Try.func29 (by kernel_rfl) rfl)
    hgoes (fun _ _ => trivial) (fun _ _ _ _ _ _ => trivial) (fun _ => trivial) (Below.refl _ _) (fun _ => rfl)
    (AckI L A B M w.heap.size FC w)
    (fun c k W => c = .exit 0 ∧ A < L.base + k + 1 ∧ AckI L A B M w.heap.size FC w k W)
    (AckI.own (by omega) (by omega) (by omega))
    (fun cc => OwnFrom.and (ownFrom_pure _ _) (OwnFrom.and (ownFrom_pure _ _) (AckI.own (by omega) (by omega) (by omega))))
    h0 (fun k W hk => ⟨⟨k, Nat.le_refl _, hk.le, hk.is⟩, hk.z.cell 0 _ rfl⟩)
    ⟨_, (by intro l x W K hK; gi_wp2; exact hK), ?body⟩ ?done ?stop
  case body =>
    rintro lp k ⟨xn, xs⟩ W hx hI
    have hkl : k < L.out.length := by have := (List.getElem?_eq_some_iff.1 hx).1; rwa [L.pend_length] at this
    rw [L.pend_get k hkl] at hx
    simp only [Option.some.injEq, Prod.mk.injEq] at hx
    obtain ⟨hxn, hxs⟩ := hx
    have q6 : W.cell? ⟨w.heap.size + 1, 6, none⟩ = some (.int .u32 (A : Int)) := hI.f.cell 6 _ hFC6
    by_cases hlt : A < xn
    · have hli : (A : Int) < (xn : Int) := by omega
      gi_wp2
      exact ⟨(KeepsOthers.refl _).from _, rfl, by omega, hI⟩
    · have hli : ¬ (A : Int) < (xn : Int) := by omega
      have qt := hI.t.cell 0 _ rfl
      have qm := hI.is.cell 6 (.map (some M)) rfl
      obtain ⟨O, hdel, hstep⟩ := hI.step hkl (by omega) (by omega)
      have e1 : Lk.num (L.base + k + 1) = .int .u32 (xn : Int) := by rw [hxn]; rfl
      rw [e1] at hdel
      clear e1
      gi_wp2
      exact ⟨hstep.2 _ (by omega), trivial, hstep.1⟩
  case done =>
    rintro D W hD hI hK
    rw [L.pend_length] at hI
    have hend := HAK.out _ hI.le hI.ack (.inl rfl)
    clear hT hF hZ hgoes h0
    gi_wp2
    go_wp2
    rw [Exit.noGoto_normal]
    refine ⟨by simp, .inl ⟨_, _, rfl, run_takeDeferred hK, ?_⟩⟩
    exact ⟨_, results_none rfl _ _ _, ⟨_, rfl⟩, by rw [hend]; exact hI.finish (by omega) hB hM⟩
  case stop =>
    rintro D cc k W hD hk ⟨rfl, hA2, hI⟩ hK
    have hend := HAK.out _ hI.le hI.ack (.inr hA2)
    clear hT hF hZ hgoes h0
    gi_wp2
    go_wp2
    rw [Exit.noGoto_normal]
    refine ⟨by simp, .inl ⟨_, _, rfl, run_takeDeferred hK, ?_⟩⟩
    exact ⟨_, results_none rfl _ _ _, ⟨_, rfl⟩, by rw [hend]; exact hI.finish (by omega) hB hM⟩
set_option maxRecDepth 100000 in
set_option maxHeartbeats 1000000 in
/-- acknowledge, of another frame. -/
theorem lkAckNo (L : Lk) (B M : Nat) (f : Fr) (w : World) (h : Lk.Is L B M w) (hn : ¬ (f.life = L.life ∧ f.ack.toNat ≤ L.top)) : Calls Try.prog 19 #[.pointer (some ⟨B, 3, none⟩), f.val] w fun e w' =>
    (∃ v, e = .returned v) ∧ Lk.Turns (L.acked f) B M w w' := by
  have c3 : w.cell? ⟨B, 3, none⟩ = some (.int .u32 (L.life.toNat : Int)) := h.cell 3 _ rfl
  have c5 : w.cell? ⟨B, 5, none⟩ = some (.int .u32 ((L.top : Int) + 1)) := h.cell 5 _ rfl
  have hB := h.lt
  have e : L.acked f = L := by unfold Lk.acked; rw [if_neg hn]
  rw [e]
  have HE := Lib.hid (fun (V : World) (hV : Below w.heap.size w V) => Lk.Turns.of_below h hV)
  by_cases h1 : f.life = L.life
  · have hge : (L.top : Int) + 1 ≤ (f.ack.toNat : Int) := by have : ¬ f.ack.toNat ≤ L.top := fun h2 => hn ⟨h1, h2⟩; omega
    have hge2 : decide ((L.top : Int) + 1 ≤ (f.ack.toNat : Int)) = true := decide_eq_true hge
    unfold Fr.val Fr.cells
    rw [h1]
    clear hn e h
    go_enter Try.func19, Try.ntmps19
    go_wp2
    go_step3
    go_wp2
    go_quiet (fail)
    go_wp2
    rw [Exit.noGoto_ret]
    refine bodyPost_ret (results_none rfl _ _ _) rfl ?_
    exact ⟨⟨_, rfl⟩, HE.out _ (drewN_below (((Below.refl _ w).alloc (Nat.le_refl _) _).alloc (by simp) _) _)⟩
  · have hne : ((f.life.toNat : Int) != (L.life.toNat : Int)) = true := by rw [bne_iff_ne]; intro e; exact h1 (BitVec.eq_of_toNat_eq (by omega))
    have hne2 : ((f.life.toNat : Int) == (L.life.toNat : Int)) = false := by rw [beq_eq_false_iff_ne]; intro e; exact h1 (BitVec.eq_of_toNat_eq (by omega))
    unfold Fr.val Fr.cells
    clear hn e h
    go_enter Try.func19, Try.ntmps19
    go_wp2
    go_step3
    go_wp2
    go_quiet (fail)
    go_wp2
    rw [Exit.noGoto_ret]
    refine bodyPost_ret (results_none rfl _ _ _) rfl ?_
    exact ⟨⟨_, rfl⟩, HE.out _ (drewN_below (((Below.refl _ w).alloc (Nat.le_refl _) _).alloc (by simp) _) _)⟩
/-- acknowledge. -/
theorem lkAck (L : Lk) (B M : Nat) (f : Fr) (w : World) (h : Lk.Is L B M w) : Calls Try.prog 19 #[.pointer (some ⟨B, 3, none⟩), f.val] w fun e w' =>
    (∃ v, e = .returned v) ∧ Lk.Turns (L.acked f) B M w w' := by
  by_cases hn : f.life = L.life ∧ f.ack.toNat ≤ L.top
  · exact lkAckYes L B M f w h hn.1 hn.2
  · exact lkAckNo L B M f w h hn
end Go.Proofs.Ytlbhfkiihikimaa
