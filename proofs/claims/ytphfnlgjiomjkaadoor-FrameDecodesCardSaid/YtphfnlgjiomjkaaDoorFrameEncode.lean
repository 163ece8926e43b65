/-
  What frame.headOf and Encode come to.
-/
import Derived.Test.YtphfnlgjiomjkaaDoorFrameRight2
import Derived.Test.YtphfnlgjiomjkaaDoorFrameGoes
import Derived.Test.YtphfnlgjiomjkaaDoorBuilder
import Derived.Test.YtphfnlgjiomjkaaDoorShelfString
namespace Go.Proofs.YtphfnlgjiomjkaaDoor
open Go.RowKit Go.Shelf
attribute [local go_sem] Oper.semAt_some
set_option linter.unusedVariables false
set_option linter.unusedSimpArgs false

/-- The numbers of a frame's head, by their cells. -/
def Fr.num (f : Fr) : Nat → BitVec 32
  | 0 => 72
  | 1 => BitVec.ofNat 32 f.wire.toNat
  | 2 => BitVec.ofNat 32 f.kind.toNat
  | 3 => BitVec.ofNat 32 (16 * f.src + f.dst).toNat
  | 4 => f.life
  | 5 => f.seq
  | 6 => f.ack
  | 7 => f.hint
  | _ => BitVec.ofNat 32 f.data.size
def Fr.hcells (f : Fr) : Array Value := #[.int .u32 ((f.num 0).toNat : Int), .int .u32 ((f.num 1).toNat : Int), .int .u32 ((f.num 2).toNat : Int), .int .u32 ((f.num 3).toNat : Int), .int .u32 ((f.num 4).toNat : Int), .int .u32 ((f.num 5).toNat : Int), .int .u32 ((f.num 6).toNat : Int), .int .u32 ((f.num 7).toNat : Int), .int .u32 ((f.num 8).toNat : Int)]
set_option maxRecDepth 100000 in
set_option maxHeartbeats 1000000 in
theorem frameHeadOf (f : Fr) (hr : f.Right) (w : World) : Calls Tryd.prog 19 #[f.val] w fun e w' => e = .returned (.agg f.hcells) ∧ Below w.heap.size w w' := by
  obtain ⟨h1, h2, h3, h4, h5, h6⟩ := hr
  have a0 : 0 ≤ f.wire := by omega
  have a1 : f.wire ≤ 2 := by omega
  obtain ⟨b0, b1⟩ := h2
  obtain ⟨c0, c1⟩ := h3
  obtain ⟨d0, d1⟩ := h4
  have n1 : ((f.num 1).toNat : Int) = f.wire := by show ((BitVec.ofNat 32 f.wire.toNat).toNat : Int) = _; rw [BitVec.toNat_ofNat, Nat.mod_eq_of_lt (by omega)]; omega
  have n2 : ((f.num 2).toNat : Int) = f.kind := by show ((BitVec.ofNat 32 f.kind.toNat).toNat : Int) = _; rw [BitVec.toNat_ofNat, Nat.mod_eq_of_lt (by omega)]; omega
  have n3 : ((f.num 3).toNat : Int) = 16 * f.src + f.dst := by show ((BitVec.ofNat 32 (16 * f.src + f.dst).toNat).toNat : Int) = _; rw [BitVec.toNat_ofNat, Nat.mod_eq_of_lt (by omega)]; omega
  have n8 : ((f.num 8).toNat : Int) = (f.data.size : Int) := by show ((BitVec.ofNat 32 f.data.size).toNat : Int) = _; rw [BitVec.toNat_ofNat, Nat.mod_eq_of_lt (by omega)]
  have hv : Value.agg f.hcells = .agg #[.int .u32 72, .int .u32 f.wire, .int .u32 f.kind, .int .u32 (16 * f.src + f.dst), .int .u32 (f.life.toNat : Int), .int .u32 (f.seq.toNat : Int), .int .u32 (f.ack.toNat : Int), .int .u32 (f.hint.toNat : Int), .int .u32 (f.data.size : Int)] := by
    unfold Fr.hcells; rw [n1, n2, n3, n8]; rfl
  rw [hv]
  have e0 : (0 : Int) ≤ f.src * 16 + f.dst := by omega
  have e1 : f.src * 16 + f.dst ≤ 255 := by omega
  have e2 : (f.data.size : Int) ≤ 4096 := by omega
  clear h1 h6 n1 n2 n3 n8 hv
  go_enter Tryd.func19, Tryd.ntmps19
  unfold Fr.val Fr.cells
  go_wp2
  exact bodyPost_ret (v := .agg #[.int .u32 72, .int .u32 f.wire, .int .u32 f.kind, .int .u32 (16 * f.src + f.dst), .int .u32 (f.life.toNat : Int), .int .u32 (f.seq.toNat : Int), .int .u32 (f.ack.toNat : Int), .int .u32 (f.hint.toNat : Int), .int .u32 (f.data.size : Int)])
    (by simp [results, Tryd.results19, go_sem]; omega) rfl ⟨rfl, ((Below.refl _ _).alloc (Nat.le_refl _) _).alloc (by simp) _⟩
/-- What a builder holds stays where all blocks of cells stay. -/
theorem builder_kept {T e : TypeId} {B b : Nat} {bs : List Value} {W W' : World} (h : Lib.IsBuilderF T e B b bs W) (hk : Kept (fun _ => False) (fun _ => False) W W') : Lib.IsBuilderF T e B b bs W' := by
  have one : ∀ {p : Value}, Lib.BuilderAtF T e B b p bs W → Lib.BuilderAtF T e B b p bs W' := by
    rintro p ⟨hB, v, hb, hown, hne⟩
    refine ⟨hB, v, hk _ _ _ _ hb id id, ⟨hown.1, ?_⟩, hne⟩
    rcases hown.2 with hn | ⟨g, cap, cur, fz, rfl, hg0, hgg, rest⟩
    · exact .inl hn
    · exact .inr ⟨g, cap, cur, fz, rfl, hg0, hk _ _ _ _ hgg id id, rest⟩
  exact h.elim (fun x => .inl (one x)) (fun x => .inr (one x))
theorem builder_own {T e : TypeId} {B b : Nat} {β : Type} (f : β → List Value) : Own (fun s W => Lib.IsBuilderF T e B b (f s) W) := fun s X Y row hs hg hr => builder_kept hs (Kept.of_grownBy hg hr)
theorem kept_of_others {e : TypeId} {b : Nat} {W W' : World} (h : Lib.OthersKept e (some b) W W') : Kept (· = b) (· = e) W W' := fun k c t fz hk hT he =>
  h k _ hk (fun x => hT (Option.some.inj x)) (fun c' fz' x => by cases x; exact he rfl)
theorem from_of_others {e : TypeId} {b n : Nat} {W W' : World} (h : Lib.OthersKept e (some b) W W') (hb : ∃ c t fz, W.heap[b]? = some (.cells c t fz)) (hs : W.heap.size ≤ W'.heap.size) : KeepsFrom n W W' :=
  ⟨hs, fun k o _ hk ho => h k o hk (fun x => by obtain ⟨c, t, fz, hc⟩ := hb; obtain rfl := Option.some.inj x; rw [hk] at hc; cases hc; cases ho) (fun c fz x => by subst x; cases ho)⟩
theorem from_below {n : Nat} {W W' : World} (h : Below W.heap.size W W') : KeepsFrom n W W' := ⟨h.size, fun k o _ hk _ => (h.block k (Array.getElem?_eq_some_iff.1 hk).1).trans hk⟩
theorem builder_cells {T e : TypeId} {B b : Nat} {bs : List Value} {W : World} (h : Lib.IsBuilderF T e B b bs W) : ∃ c t fz, W.heap[b]? = some (.cells c t fz) := by
  rcases h with ⟨_, v, hb, _⟩ | ⟨_, v, hb, _⟩ <;> exact ⟨_, _, _, hb⟩
theorem builder_new (W : World) (T e : TypeId) (B : Nat) (hB : B ≤ W.heap.size) : Lib.IsBuilderF T e B W.heap.size [] (W.alloc (.cells #[.pointer none, .slice none 0 0] T)) :=
  .inl ⟨hB, _, World.alloc_heap_new W _, World.ownsRowF_nil _ _ _ _, by simp [Value.ownBlock]⟩
/-- The bytes of the first k fields. -/
def Fr.acc (f : Fr) (k : Nat) : List UInt8 := ((fieldsOf (f.wire == 1)).take k).flatMap fun x => (CrcM.put (f.num x.2)).take x.1
theorem Fr.acc_succ (f : Fr) (k : Nat) (x : Nat × Nat) (h : (fieldsOf (f.wire == 1))[k]? = some x) : f.acc (k + 1) = f.acc k ++ (CrcM.put (f.num x.2)).take x.1 := by
  rw [Fr.acc, Fr.acc, List.take_add_one, h]; simp
theorem fieldsOf_in (b : Bool) (k : Nat) (x : Nat × Nat) (h : (fieldsOf b)[k]? = some x) : x.1 ≤ 4 ∧ x.2 < 9 := by
  have hm := List.mem_of_getElem? h
  obtain ⟨p, q⟩ := x
  cases b <;> simp [fieldsOf] at hm <;> dsimp only <;> omega
theorem Fr.acc_length (f : Fr) (k : Nat) : (f.acc k).length ≤ 36 := by
  have h1 : ∀ (l : List (Nat × Nat)), (∀ x ∈ l, x.1 ≤ 4) → (l.flatMap fun x => (CrcM.put (f.num x.2)).take x.1).length ≤ 4 * l.length := by
    intro l
    induction l with
    | nil => intro _; simp
    | cons a t ih =>
      intro h
      rw [List.flatMap_cons, List.length_append, List.length_cons]
      have := ih (fun x hx => h x (List.mem_cons_of_mem _ hx))
      have h2 : ((CrcM.put (f.num a.2)).take a.1).length ≤ 4 := by rw [List.length_take]; have := h a (List.mem_cons_self ..); omega
      omega
  have h2 := h1 ((fieldsOf (f.wire == 1)).take k) (fun x hx => by
    obtain ⟨i, hi⟩ := List.getElem?_of_mem (List.mem_of_mem_take hx)
    exact (fieldsOf_in _ i x hi).1)
  have h3 : ((fieldsOf (f.wire == 1)).take k).length ≤ 9 := by rw [List.length_take, fieldsOf_length]; split <;> omega
  rw [Fr.acc]; omega
theorem put_one (n : BitVec 32) : (CrcM.put n).take 1 = [UInt8.ofNat n.toNat] := by simp [CrcM.put, CrcM.bytesN]
theorem put_four (n : BitVec 32) : (CrcM.put n).take 4 = CrcM.put n := List.take_of_length_le (by rw [CrcM.put_length]; omega)
theorem ofNat_toNat (n : Nat) (h : n < 4294967296) : (BitVec.ofNat 32 n).toNat = n := by rw [BitVec.toNat_ofNat, Nat.mod_eq_of_lt h]
theorem Fr.acc_all (f : Fr) (hr : f.Right) : f.acc (fieldsOf (f.wire == 1)).length = f.head := by
  obtain ⟨h1, h2, h3, h4, h5, h6⟩ := hr
  have e1 : (f.num 1).toNat = f.wire.toNat := ofNat_toNat _ (by omega)
  have e2 : (f.num 2).toNat = f.kind.toNat := ofNat_toNat _ (by omega)
  have e3 : (f.num 3).toNat = (16 * f.src + f.dst).toNat := ofNat_toNat _ (by omega)
  have e0 : (f.num 0).toNat = 72 := rfl
  by_cases hw : f.wire = 1
  · have hb : (f.wire == 1) = true := by simpa using hw
    rw [Fr.acc, hb, List.take_length, Fr.head, if_pos hw]
    simp only [fieldsOf, if_true, List.cons_append, List.nil_append, List.flatMap_cons, List.flatMap_nil, put_one, put_four, e0, e1, e2, e3, List.append_nil]
    rfl
  · have hb : (f.wire == 1) = false := by simpa using hw
    rw [Fr.acc, hb, List.take_length, Fr.head, if_neg hw]
    simp only [fieldsOf, Bool.false_eq_true, if_false, List.cons_append, List.nil_append, List.flatMap_cons, List.flatMap_nil, put_one, put_four, e0, e1, e2, e3, List.append_nil]
    rfl
theorem Fr.head_length (f : Fr) (hr : f.Right) : f.head.length = if f.wire = 1 then 20 else 24 := by
  rw [Fr.head]
  split <;> simp [CrcM.put_length]
theorem Fr.body_size (f : Fr) (hr : f.Right) : (txt f.body).size ≤ 100000 := by
  have h1 := f.head_length hr
  have h5 := hr.2.2.2.2.1
  have h6 : f.data.data.toList.length = f.data.size := by simp
  rw [txt_size, Fr.body, List.length_append, h6, h1]
  split <;> omega
theorem Fr.hcells_at (f : Fr) (o : Nat) (ho : o < 9) : f.hcells[o]? = some (.int .u32 ((f.num o).toNat : Int)) := by
  rcases o with _ | _ | _ | _ | _ | _ | _ | _ | _ | o
  all_goals first | rfl | omega
theorem Fr.num_one (f : Fr) (hr : f.Right) : ((f.num 1).toNat : Int) = f.wire := by
  have h1 := hr.1
  show ((BitVec.ofNat 32 f.wire.toNat).toNat : Int) = _; rw [BitVec.toNat_ofNat, Nat.mod_eq_of_lt (by omega)]; omega
set_option maxRecDepth 100000 in
set_option maxHeartbeats 1000000 in
theorem frameEncodeNo (f : Fr) (hr : ¬ f.Right) (hs : f.data.size ≤ maxLen) (w : World) : Calls Tryd.prog 8 #[f.val] w fun e w' => e = .returned (.tuple #[.string ⟨#[]⟩, .int .i64 20]) ∧ Below w.heap.size w w' := by
  have hd : decide f.Right = false := by simpa using hr
  go_enter Tryd.func8, Tryd.ntmps8
  unfold Fr.val Fr.cells
  go_wp2_with (go_at_call 18; refine (frameRight f hs _).mono ?_; rintro e w' ⟨rfl, hb⟩; rw [hd])
  go_ret2
  exact ⟨rfl, ((Below.refl _ _).alloc (Nat.le_refl _) _).trans (hb.mono (by simp))⟩
set_option maxRecDepth 100000 in
set_option maxHeartbeats 2000000 in
theorem frameEncodeYes (f : Fr) (hr : f.Right) (w : World) : Calls Tryd.prog 8 #[f.val] w fun e w' => e = .returned (.tuple #[.string (txt (CrcM.withSum f.body)), .int .i64 0]) ∧ Below w.heap.size w w' := by
  have hd : decide f.Right = true := by simpa using hr
  have h96 : f.data.size ≤ 4096 := hr.2.2.2.2.1
  have hs : f.data.size ≤ maxLen := by unfold maxLen; omega
  refine (callsIn_wide (n := 5)).1 ?_
  refine callsIn_of_wp_marks Tryd.func8 rfl trivial ?_ rfl
  simp only [Tryd.ntmps8, List.size_toArray, List.length_cons, List.length_nil, Nat.reduceAdd, Nat.reduceSub, Array.replicate_succ, Array.replicate_zero, List.push_toArray, List.append_toArray, List.nil_append, List.cons_append]
  refine wpIn_wide.2 ?_
  unfold Fr.val Fr.cells
  have hr0 : Row (w.alloc (.cells #[.int .i64 f.wire, .int .i64 f.kind, .int .i64 f.src, .int .i64 f.dst, .int .u32 (f.life.toNat : Int), .int .u32 (f.seq.toNat : Int), .int .u32 (f.ack.toNat : Int), .int .u32 (f.hint.toNat : Int), .string f.data] 26)) w.heap.size f.cells 26 := Row.new w _ _
  have hB0 : Below w.heap.size w (w.alloc (.cells #[.int .i64 f.wire, .int .i64 f.kind, .int .i64 f.src, .int .i64 f.dst, .int .u32 (f.life.toNat : Int), .int .u32 (f.seq.toNat : Int), .int .u32 (f.ack.toNat : Int), .int .u32 (f.hint.toNat : Int), .string f.data] 26)) := (Below.refl _ w).alloc (Nat.le_refl _) _
  go_wp2_with (first
    | (go_at_call 18; refine (frameRight f hs _).mono ?_; rintro e w1 ⟨rfl, hb1⟩; rw [hd]; replace hr0 := hr0.below hb1 hr0.lt; replace hB0 := hB0.trans (hb1.mono hB0.size); obtain ⟨g0, g1, g2, g3, g4, g5, g6, g7, g8⟩ := FrIn.of_row hr0)
    | (go_at_call 19; refine (frameHeadOf f hr _).mono ?_; rintro e w2 ⟨rfl, hb2⟩; unfold Fr.hcells; replace hr0 := hr0.below hb2 hr0.lt; replace hB0 := hB0.trans (hb2.mono hB0.size); clear hb2 hb1 g0 g1 g2 g3 g4 g5 g6 g7 g8)
    | (go_at_call 20; refine (frameFields _ _).mono ?_; rintro e w3 ⟨rfl, rfl⟩))
  refine (wpIn_wide (n := 5)).1 ?_
  have hsz := hr0.lt
  have r1 : Row (w2.alloc (.cells f.hcells 47)) w2.heap.size f.hcells 47 := Row.new w2 _ _
  have r2 := builder_new (w2.alloc (.cells f.hcells 47)) 52 5 w.heap.size (by simp; omega)
  have r3 := Row.new ((w2.alloc (.cells f.hcells 47)).alloc (.cells #[.pointer none, .slice none 0 0] 52)) #[.pointer (some ⟨w2.heap.size, 0, none⟩)] 56
  have r4 : Row (((w2.alloc (.cells f.hcells 47)).alloc (.cells #[.pointer none, .slice none 0 0] 52)).alloc (.cells #[.pointer (some ⟨w2.heap.size, 0, none⟩)] 56)) w.heap.size f.cells 26 := ((hr0.alloc _).alloc _).alloc _
  have r5 : Below w.heap.size w (((w2.alloc (.cells f.hcells 47)).alloc (.cells #[.pointer none, .slice none 0 0] 52)).alloc (.cells #[.pointer (some ⟨w2.heap.size, 0, none⟩)] 56)) := ((hB0.alloc (by omega) _).alloc (by simp; omega) _).alloc (by simp; omega) _
  have r6 : Kept (fun _ => False) (fun _ => False) ((w2.alloc (.cells f.hcells 47)).alloc (.cells #[.pointer none, .slice none 0 0] 52)) (((w2.alloc (.cells f.hcells 47)).alloc (.cells #[.pointer none, .slice none 0 0] 52)).alloc (.cells #[.pointer (some ⟨w2.heap.size, 0, none⟩)] 56)) :=
    Kept.of_below ((Below.refl _ _).alloc (Nat.le_refl _) _)
  replace r1 : Row (((w2.alloc (.cells f.hcells 47)).alloc (.cells #[.pointer none, .slice none 0 0] 52)).alloc (.cells #[.pointer (some ⟨w2.heap.size, 0, none⟩)] 56)) w2.heap.size f.hcells 47 := (r1.alloc _).alloc _
  replace r2 := builder_kept r2 r6
  have r7 : (((w2.alloc (.cells f.hcells 47)).alloc (.cells #[.pointer none, .slice none 0 0] 52)).alloc (.cells #[.pointer (some ⟨w2.heap.size, 0, none⟩)] 56)).heap.size = w2.heap.size + 3 := by simp
  simp only [World.size_alloc] at r2 r3
  clear r6 hB0 hr0
  change Code.wpIn _ _ _ _ _ _ (((w2.alloc (.cells f.hcells 47)).alloc (.cells #[.pointer none, .slice none 0 0] 52)).alloc (.cells #[.pointer (some ⟨w2.heap.size, 0, none⟩)] 56))
  generalize (((w2.alloc (.cells f.hcells 47)).alloc (.cells #[.pointer none, .slice none 0 0] 52)).alloc (.cells #[.pointer (some ⟨w2.heap.size, 0, none⟩)] 56)) = V at *
  refine wpIn_goesN_found rfl (by omega) (gf := 37) (lb := #[.pointer (some ⟨w2.heap.size + 1 + 1, 0, none⟩)]) rfl trivial (enters_of Tryd.func37 (by kernel_rfl) rfl)
    (fieldsGoes Fence.wide _ wide_plain rfl V (w2.heap.size + 1 + 1) w2.heap.size f.wire (· = w2.heap.size + 1) (· = 5) r3 (by omega) (by intro b hb; omega) (by decide) (by decide))
    (fun h k => h.trans k) (fun W l o o' h hc => Kept.putObj W l o o' h hc) (fun W => Kept.refl _ _ W) (Below.refl _ _) (fun _ => rfl)
    (fun k W => Lib.IsBuilderF 52 5 w.heap.size (w2.heap.size + 1) (Lib.byteCells (f.acc k)) W ∧ Row W w2.heap.size f.hcells 47 ∧ Row W w.heap.size f.cells 26 ∧ Below w.heap.size w W)
    (fun _ _ _ => False)
    (OwnFrom.and ((builder_own _).from _) (OwnFrom.and ((Row.own _ _ _).from _) (OwnFrom.and ((Row.own _ _ _).from _) (ownFrom_below (Nat.le_refl _) (by omega)))))
    (fun _ _ _ _ _ hs _ _ => hs)
    ⟨r2, r1, r4, r5⟩
    (fun k W hI hk => by rw [← f.num_one hr]; exact hI.2.1.cell 1 _ rfl)
    ⟨_, (by intro l x X K hK; gi_wp2; exact hK), ?body⟩ ?done ?stop
  case body =>
    rintro l k ⟨wd, o⟩ X hx ⟨hb, rh, rf, hB⟩
    obtain ⟨hw4, ho9⟩ := fieldsOf_in _ k _ hx
    have hac := f.acc_succ k _ hx
    dsimp only at hw4 ho9 hac
    have hc := rh.cell o _ (f.hcells_at o ho9)
    have hp4 : (txt (CrcM.put (f.num o))).size = 4 := by rw [txt_size, CrcM.put_length]
    have hw0 : (0 : Int) ≤ (wd : Int) := by omega
    have hwl : (wd : Int) ≤ ((txt (CrcM.put (f.num o))).size : Int) := by omega
    have hal := f.acc_length k
    have hcut : Lib.byteCells (f.acc k) ++ Lib.strCells ((txt (CrcM.put (f.num o))).extract 0 wd) = Lib.byteCells (f.acc (k + 1)) := by
      rw [hac, Lib.byteCells_append, Lib.strCells_eq, Lib.extract_data, txt_toList, List.drop_zero, Nat.sub_zero]
    have hlen : (Lib.byteCells (f.acc k)).length + ((txt (CrcM.put (f.num o))).extract 0 wd).size ≤ 140737488355328 := by
      rw [Lib.byteCells_length, ByteArray.size_extract]; omega
    have HC := Lib.hid hcut
    have HL := Lib.hid hlen
    clear hx hac hp4 hal hcut hlen r1 r2 r3 r4 r5 r7
    gi_wp2_with (first
      | (refine ⟨trivial, ?_⟩; gi_at_call 22; refine (CallsIn.inRound l (callsIn_wide.2 (crcPut _ _))).mono ?_; rintro e w3 ⟨rfl, hb3⟩)
      | (refine ⟨trivial, ?_⟩; gi_at_call 21; refine (CallsIn.inRound l (callsIn_wide.2 (builderWrites w.heap.size (w2.heap.size + 1) _ _ _ (builder_kept hb (Kept.of_below hb3)) HL.out (by have := hB.size; have := hb3.size; omega)))).mono ?_; rintro e w4 ⟨rfl, hw5, hb5, hk5⟩))
    have hk6 : Kept (· = w2.heap.size + 1) (· = 5) X w4 := (Kept.of_below hb3).trans (kept_of_others hk5)
    refine ⟨(from_below hb3).trans (from_of_others hk5 (builder_cells (builder_kept hb (Kept.of_below hb3))) ?_), hk6, ?_, rh.kept hk6 (by omega) (by decide), rf.kept hk6 (by omega) (by decide), hB.trans ((hb3.mono hB.size).trans hb5)⟩
    · exact hb5.size
    · rw [← HC.out]; exact .inr hw5
  case done =>
    rintro D X hD ⟨hb, rh, rf, hB⟩ hK
    rw [f.acc_all hr] at hb
    obtain ⟨g0, g1, g2, g3, g4, g5, g6, g7, g8⟩ := FrIn.of_row rf
    have hDne : ¬ D = w2.heap.size + 1 := by omega
    have hDw : w.heap.size ≤ D := by omega
    clear r1 r2 r3 r4 r5 r7
    gi_wp2
    have hbl := f.body_size hr
    have hcat : Lib.byteCells f.head ++ Lib.strCells f.data = Lib.byteCells f.body := by rw [Fr.body, Lib.byteCells_append, Lib.strCells_eq]
    have hl1 : (Lib.byteCells f.head).length + f.data.size ≤ 140737488355328 := by
      rw [Lib.byteCells_length, f.head_length hr]; split <;> omega
    have hseal := fun w => crcSeal (txt f.body) hbl w
    rw [txt_toList] at hseal
    have HS := Lib.hid hseal
    have HC := Lib.hid hcat
    have HL := Lib.hid hl1
    clear hbl hcat hl1 hseal
    go_wp2_with (first
      | (go_at_call 21; refine (builderWrites w.heap.size (w2.heap.size + 1) _ f.data _ hb HL.out hB.size).mono ?_; rintro e w4 ⟨rfl, hw5, hb5, hk5⟩; rw [HC.out] at hw5)
      | (go_at_call 24; refine (Tryd.Builder_String_any_k w.heap.size (w2.heap.size + 1) f.body _ (.inr hw5) (by have := hB.size; have := hb5.size; omega)).mono ?_; rintro e w5 ⟨rfl, hw6, hb6, hk6⟩)
      | (go_at_call 23; refine (HS.out _).mono ?_; rintro e w6 ⟨rfl, hb7⟩))
    try rw [Exit.noGoto_ret]
    have hK6 : w6.heap[D]? = some (.deferred (some [])) := by
      have k1 := hk5 D _ hK (fun x => hDne (Option.some.inj x)) (fun c fz x => by cases x)
      have k2 := hk6 D _ k1 (fun x => hDne (Option.some.inj x)) (fun c fz x => by cases x)
      exact (hb7.block D (Array.getElem?_eq_some_iff.1 k2).1).trans k2
    refine ⟨by simp, .inl ⟨_, _, rfl, run_takeDeferred hK6, ?_⟩⟩
    exact ⟨_, results_tmp2 rfl _ _ _, rfl, ((((hB.trans hb5).trans hb6).trans (hb7.mono (by have := hB.size; have := hb5.size; have := hb6.size; omega)))).trans (belowK_b (w := w) (Nat.le_refl _) _ D _ _ hDw hK6 rfl rfl)⟩
  case stop =>
    rintro D c k X hD hk h hK
    exact h.elim
end Go.Proofs.YtphfnlgjiomjkaaDoor
