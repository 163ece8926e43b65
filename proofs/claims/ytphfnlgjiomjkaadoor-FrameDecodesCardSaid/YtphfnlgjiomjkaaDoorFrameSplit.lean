/-
  What frame.split and frameOf come to.
-/
import Derived.Test.YtphfnlgjiomjkaaDoorFrameRight2
import Derived.Test.YtphfnlgjiomjkaaDoorFrameGoes
namespace Go.Proofs.YtphfnlgjiomjkaaDoor
open Go.RowKit Go.Shelf
attribute [local go_sem] Oper.semAt_some
set_option linter.unusedVariables false
set_option linter.unusedSimpArgs false

def noughts : ByteArray := ⟨#[0, 0, 0, 0]⟩
/-- The number of the first bytes of a text. -/
def valAt (s : ByteArray) (wd : Nat) : BitVec 32 := CrcM.get (s.extract 0 wd ++ noughts.extract wd 4).data.toList
/-- One field more: its cell is set, its bytes are gone. -/
def fieldStep (p : Array Value × ByteArray) (x : Nat × Nat) : Array Value × ByteArray := (p.1.setIfInBounds x.2 (.int .u32 ((valAt p.2 x.1).toNat : Int)), p.2.extract x.1 p.2.size)
def zeros9 : Array Value := #[.int .u32 0, .int .u32 0, .int .u32 0, .int .u32 0, .int .u32 0, .int .u32 0, .int .u32 0, .int .u32 0, .int .u32 0]
def afterFields (b : ByteArray) (l : List (Nat × Nat)) : Array Value × ByteArray := l.foldl fieldStep (zeros9, b)
theorem afterFields_snoc (b : ByteArray) (l : List (Nat × Nat)) (x : Nat × Nat) : afterFields b (l ++ [x]) = fieldStep (afterFields b l) x := by simp [afterFields]
theorem extract_extract (b : ByteArray) (i j : Nat) : (b.extract i b.size).extract j (b.extract i b.size).size = b.extract (i + j) b.size := by
  apply ByteArray.ext
  apply Array.toList_inj.1
  rw [Lib.extract_data, Lib.extract_data, Lib.extract_data, ByteArray.size_extract]
  simp only [Nat.min_self]
  rw [List.take_of_length_le (l := List.drop i b.data.toList) (by simp), List.take_of_length_le (by simp; omega), List.drop_drop, List.take_of_length_le (by simp)]
def widths (l : List (Nat × Nat)) : Nat := (l.map Prod.fst).sum
theorem afterFields_rest (b : ByteArray) : ∀ (l : List (Nat × Nat)) (c : Array Value) (i : Nat), (l.foldl fieldStep (c, b.extract i b.size)).2 = b.extract (i + widths l) b.size
  | [], c, i => by simp [widths]
  | x :: t, c, i => by
    rw [List.foldl_cons, fieldStep, extract_extract, afterFields_rest b t _ (i + x.1), show widths (x :: t) = x.1 + widths t from by simp [widths], Nat.add_assoc]
theorem extract_zero (b : ByteArray) : b.extract 0 b.size = b := by
  apply ByteArray.ext
  apply Array.toList_inj.1
  rw [Lib.extract_data]; simp only [List.drop_zero, Nat.sub_zero]; exact List.take_of_length_le (by simp)
theorem afterFields_text (b : ByteArray) (l : List (Nat × Nat)) : (afterFields b l).2 = b.extract (widths l) b.size := by
  have h := afterFields_rest b l zeros9 0
  rw [extract_zero, Nat.zero_add] at h
  exact h
theorem afterFields_size (b : ByteArray) (l : List (Nat × Nat)) : (afterFields b l).2.size = b.size - widths l := by
  rw [afterFields_text, ByteArray.size_extract]; omega
theorem foldl_cells (l : List (Nat × Nat)) : ∀ (p : Array Value × ByteArray), (l.foldl fieldStep p).1.size = p.1.size := by
  induction l with
  | nil => intro p; rfl
  | cons x t ih => intro p; rw [List.foldl_cons, ih, fieldStep]; simp
theorem afterFields_cells (b : ByteArray) (l : List (Nat × Nat)) : (afterFields b l).1.size = 9 := foldl_cells l _
theorem widths_take (one : Bool) (k : Nat) (x : Nat × Nat) (h : (fieldsOf one)[k]? = some x) : widths ((fieldsOf one).take k) + x.1 ≤ if one = true then 20 else 24 := by
  have hk : k < 9 := by
    have := (List.getElem?_eq_some_iff.1 h).1
    rw [fieldsOf_length] at this; split at this <;> omega
  cases one
  · rcases k with _ | _ | _ | _ | _ | _ | _ | _ | _ | k
    all_goals first | omega | (simp [fieldsOf] at h; subst h; simp [fieldsOf, widths])
  · rcases k with _ | _ | _ | _ | _ | _ | _ | _ | _ | k
    all_goals first | omega | (simp [fieldsOf] at h; try (subst h; simp [fieldsOf, widths]))
theorem widths_all (one : Bool) : widths (fieldsOf one) = if one = true then 20 else 24 := by cases one <;> rfl
theorem crcGetAny (s : ByteArray) (h : s.size = 4) (w : World) : Calls Tryd.prog 45 #[.string s] w fun e w' => e = .returned (.tuple #[.int .u32 ((CrcM.get s.data.toList).toNat : Int), .int .i64 0]) ∧ Below w.heap.size w w' := by
  obtain ⟨a, b, c, d, rfl⟩ := four s h
  exact crcGet4 a b c d w
theorem byte_val (s : ByteArray) (x : UInt8) (t : List UInt8) (h : s.data.toList = x :: t) : (valAt s 1).toNat = x.toNat := by
  have hx := x.toNat_lt
  have hz : s.size = t.length + 1 := by
    have : s.data.toList.length = s.size := by simp
    rw [← this, h]; rfl
  have e : (s.extract 0 1 ++ noughts.extract 1 4).data.toList = [x, 0, 0, 0] := by
    rw [ByteArray.data_append, Array.toList_append, Lib.extract_data, Lib.extract_data, h]
    rfl
  rw [valAt, e]
  simp [CrcM.get]
theorem cat_size (s : ByteArray) (wd : Nat) (h : wd ≤ s.size) (h4 : wd ≤ 4) : (s.extract 0 wd ++ noughts.extract wd 4).size = 4 := by
  rw [ByteArray.size_append, ByteArray.size_extract, ByteArray.size_extract]
  have : noughts.size = 4 := rfl
  omega
theorem from_below' {n : Nat} {W W' : World} (h : Below W.heap.size W W') : KeepsFrom n W W' := ⟨h.size, fun k o _ hk _ => (h.block k (Array.getElem?_eq_some_iff.1 hk).1).trans hk⟩
theorem row_box {W : World} {b : Nat} {v : Value} {t : TypeId} (h : Row W b #[v] t) : Box W b v := ⟨h.cell 0 _ rfl, h.thawed 0⟩
/-- Nine numbers. -/
def IsNums (c : Array Value) : Prop := ∃ n0 n1 n2 n3 n4 n5 n6 n7 n8 : BitVec 32, c = #[.int .u32 (n0.toNat : Int), .int .u32 (n1.toNat : Int), .int .u32 (n2.toNat : Int), .int .u32 (n3.toNat : Int), .int .u32 (n4.toNat : Int), .int .u32 (n5.toNat : Int), .int .u32 (n6.toNat : Int), .int .u32 (n7.toNat : Int), .int .u32 (n8.toNat : Int)]
theorem IsNums.set {c : Array Value} (h : IsNums c) (o : Nat) (x : BitVec 32) (ho : o < 9) : IsNums (c.setIfInBounds o (.int .u32 (x.toNat : Int))) := by
  obtain ⟨n0, n1, n2, n3, n4, n5, n6, n7, n8, rfl⟩ := h
  rcases o with _ | _ | _ | _ | _ | _ | _ | _ | _ | o
  · exact ⟨x, n1, n2, n3, n4, n5, n6, n7, n8, rfl⟩
  · exact ⟨n0, x, n2, n3, n4, n5, n6, n7, n8, rfl⟩
  · exact ⟨n0, n1, x, n3, n4, n5, n6, n7, n8, rfl⟩
  · exact ⟨n0, n1, n2, x, n4, n5, n6, n7, n8, rfl⟩
  · exact ⟨n0, n1, n2, n3, x, n5, n6, n7, n8, rfl⟩
  · exact ⟨n0, n1, n2, n3, n4, x, n6, n7, n8, rfl⟩
  · exact ⟨n0, n1, n2, n3, n4, n5, x, n7, n8, rfl⟩
  · exact ⟨n0, n1, n2, n3, n4, n5, n6, x, n8, rfl⟩
  · exact ⟨n0, n1, n2, n3, n4, n5, n6, n7, x, rfl⟩
  · omega
theorem nums_fold : ∀ (l : List (Nat × Nat)), (∀ x ∈ l, x.2 < 9) → ∀ p : Array Value × ByteArray, IsNums p.1 → IsNums (l.foldl fieldStep p).1
  | [], _, p, h => h
  | x :: t, hl, p, h => by
    rw [List.foldl_cons]
    exact nums_fold t (fun y hy => hl y (List.mem_cons_of_mem _ hy)) _ (h.set x.2 _ (hl x (List.mem_cons_self ..)))
theorem afterFields_nums (b : ByteArray) (one : Bool) : IsNums (afterFields b (fieldsOf one)).1 :=
  nums_fold _ (by cases one <;> decide) _ ⟨0, 0, 0, 0, 0, 0, 0, 0, 0, rfl⟩
def fill9 (W : World) (b : Nat) (y0 y1 y2 y3 y4 y5 y6 y7 y8 : Value) : World := (((((((((W.setCell ⟨b, 0, none⟩ y0).setCell ⟨b, 1, none⟩ y1).setCell ⟨b, 2, none⟩ y2).setCell ⟨b, 3, none⟩ y3).setCell ⟨b, 4, none⟩ y4).setCell ⟨b, 5, none⟩ y5).setCell ⟨b, 6, none⟩ y6).setCell ⟨b, 7, none⟩ y7).setCell ⟨b, 8, none⟩ y8)
theorem row_fill {W : World} {b : Nat} {t : TypeId} (x0 x1 x2 x3 x4 x5 x6 x7 x8 y0 y1 y2 y3 y4 y5 y6 y7 y8 : Value) (h : Row W b #[x0, x1, x2, x3, x4, x5, x6, x7, x8] t) : Row (fill9 W b y0 y1 y2 y3 y4 y5 y6 y7 y8) b #[y0, y1, y2, y3, y4, y5, y6, y7, y8] t := by
  have h9 := (((((((((h.set 0 y0).set 1 y1).set 2 y2).set 3 y3).set 4 y4).set 5 y5).set 6 y6).set 7 y7).set 8 y8)
  simpa [fill9] using h9
theorem below_fill {n : Nat} {w W : World} {b : Nat} (y0 y1 y2 y3 y4 y5 y6 y7 y8 : Value) (hB : Below n w W) (hb : n ≤ b) : Below n w (fill9 W b y0 y1 y2 y3 y4 y5 y6 y7 y8) := (((((((((hB.setCell (p := ⟨b, 0, none⟩) hb y0).setCell (p := ⟨b, 1, none⟩) hb y1).setCell (p := ⟨b, 2, none⟩) hb y2).setCell (p := ⟨b, 3, none⟩) hb y3).setCell (p := ⟨b, 4, none⟩) hb y4).setCell (p := ⟨b, 5, none⟩) hb y5).setCell (p := ⟨b, 6, none⟩) hb y6).setCell (p := ⟨b, 7, none⟩) hb y7).setCell (p := ⟨b, 8, none⟩) hb y8)
theorem keeps_fill (W : World) (b : Nat) (y0 y1 y2 y3 y4 y5 y6 y7 y8 : Value) : KeepsOthers W (fill9 W b y0 y1 y2 y3 y4 y5 y6 y7 y8) := (((((((((KeepsOthers.refl W).trans (KeepsOthers.setCell _ ⟨b, 0, none⟩ y0)).trans (KeepsOthers.setCell _ ⟨b, 1, none⟩ y1)).trans (KeepsOthers.setCell _ ⟨b, 2, none⟩ y2)).trans (KeepsOthers.setCell _ ⟨b, 3, none⟩ y3)).trans (KeepsOthers.setCell _ ⟨b, 4, none⟩ y4)).trans (KeepsOthers.setCell _ ⟨b, 5, none⟩ y5)).trans (KeepsOthers.setCell _ ⟨b, 6, none⟩ y6)).trans (KeepsOthers.setCell _ ⟨b, 7, none⟩ y7)).trans (KeepsOthers.setCell _ ⟨b, 8, none⟩ y8)
set_option maxRecDepth 100000 in
set_option maxHeartbeats 4000000 in
theorem frameSplit (b : ByteArray) (one : Bool) (v : Int) (hv : (v == 1) = one) (hb : (if one = true then 20 else 24) ≤ b.size) (hs : b.size ≤ 100000) (hw : (((afterFields b ((fieldsOf one).take 7)).1)[1]?) = some (.int .u32 v)) (w : World) :
    Calls Tryd.prog 29 #[.string b] w fun e w' => e = .returned (.tuple #[.agg (afterFields b (fieldsOf one)).1, .string (afterFields b (fieldsOf one)).2]) ∧ Below w.heap.size w w' := by
  refine (callsIn_wide (n := 5)).1 ?_
  refine callsIn_of_wp_marks Tryd.func29 rfl trivial ?_ rfl
  simp only [Tryd.ntmps29, List.size_toArray, List.length_cons, List.length_nil, Nat.reduceAdd, Nat.reduceSub, Array.replicate_succ, Array.replicate_zero, List.push_toArray, List.append_toArray, List.nil_append, List.cons_append]
  refine wpIn_wide.2 ?_
  go_wp2_with (go_at_call 20; refine (frameFields _ _).mono ?_; rintro e w3 ⟨rfl, rfl⟩)
  refine (wpIn_wide (n := 5)).1 ?_
  have q1 : Row ((((w.alloc (.cells #[.string b] 9)).alloc (.cells zeros9 47)).alloc (.cells zeros9 47)).alloc (.cells #[.pointer (some ⟨w.heap.size + 1 + 1, 0, none⟩)] 56)) w.heap.size #[.string b] 9 := (((Row.new w _ _).alloc _).alloc _).alloc _
  have q2 := Row.new (w.alloc (.cells #[.string b] 9)) zeros9 47
  have q3 := Row.new ((w.alloc (.cells #[.string b] 9)).alloc (.cells zeros9 47)) zeros9 47
  have q4 := Row.new (((w.alloc (.cells #[.string b] 9)).alloc (.cells zeros9 47)).alloc (.cells zeros9 47)) #[.pointer (some ⟨w.heap.size + 1 + 1, 0, none⟩)] 56
  simp only [World.size_alloc] at q2 q3 q4
  replace q2 : Row ((((w.alloc (.cells #[.string b] 9)).alloc (.cells zeros9 47)).alloc (.cells zeros9 47)).alloc (.cells #[.pointer (some ⟨w.heap.size + 1 + 1, 0, none⟩)] 56)) (w.heap.size + 1) zeros9 47 := (q2.alloc _).alloc _
  replace q3 : Row ((((w.alloc (.cells #[.string b] 9)).alloc (.cells zeros9 47)).alloc (.cells zeros9 47)).alloc (.cells #[.pointer (some ⟨w.heap.size + 1 + 1, 0, none⟩)] 56)) (w.heap.size + 1 + 1) zeros9 47 := q3.alloc _
  have q5 : Below w.heap.size w ((((w.alloc (.cells #[.string b] 9)).alloc (.cells zeros9 47)).alloc (.cells zeros9 47)).alloc (.cells #[.pointer (some ⟨w.heap.size + 1 + 1, 0, none⟩)] 56)) := ((((Below.refl _ w).alloc (Nat.le_refl _) _).alloc (by simp) _).alloc (by simp; omega) _).alloc (by simp; omega) _
  have q6 : ((((w.alloc (.cells #[.string b] 9)).alloc (.cells zeros9 47)).alloc (.cells zeros9 47)).alloc (.cells #[.pointer (some ⟨w.heap.size + 1 + 1, 0, none⟩)] 56)).heap.size = w.heap.size + 4 := by simp
  change Code.wpIn _ _ _ _ _ _ ((((w.alloc (.cells #[.string b] 9)).alloc (.cells zeros9 47)).alloc (.cells zeros9 47)).alloc (.cells #[.pointer (some ⟨w.heap.size + 1 + 1, 0, none⟩)] 56))
  generalize (((w.alloc (.cells #[.string b] 9)).alloc (.cells zeros9 47)).alloc (.cells zeros9 47)).alloc (.cells #[.pointer (some ⟨w.heap.size + 1 + 1, 0, none⟩)] 56) = V at *
  refine wpIn_goesN_found rfl (by omega) (gf := 37) (lb := #[.pointer (some ⟨w.heap.size + 1 + 1 + 1, 0, none⟩)]) rfl trivial (enters_of Tryd.func37 (by kernel_rfl) rfl)
    (fieldsGoes Fence.wide _ wide_plain rfl V (w.heap.size + 1 + 1 + 1) (w.heap.size + 1 + 1) v (fun k => k = w.heap.size ∨ k = w.heap.size + 1 + 1) (fun _ => False) q4 (by omega) (by intro k hk; omega) id id)
    (fun h k => h.trans k) (fun W l o o' h hc => Kept.putObj W l o o' h hc) (fun W => Kept.refl _ _ W) (Below.refl _ _) (fun _ => rfl)
    (fun k W => Row W (w.heap.size + 1 + 1) (afterFields b ((fieldsOf (v == 1)).take k)).1 47 ∧ Row W w.heap.size #[.string (afterFields b ((fieldsOf (v == 1)).take k)).2] 9 ∧ Row W (w.heap.size + 1) zeros9 47 ∧ Below w.heap.size w W)
    (fun _ _ _ => False)
    (OwnFrom.and ((Row.own _ _ _).from _) (OwnFrom.and ((Row.own _ _ _).from _) (OwnFrom.and ((Row.own _ _ _).from _) (ownFrom_below (Nat.le_refl _) (by omega)))))
    (fun _ _ _ _ _ hs _ _ => hs)
    ⟨q3, q1, q2, q5⟩
    (fun k W hI hk => by subst hk; rw [hv] at hI; exact hI.1.cell 1 _ hw)
    ⟨_, (by intro l x X K hK; gi_wp2; exact hK), ?body⟩ ?done ?stop
  case body =>
    rintro l k ⟨wd, o⟩ X hx ⟨rh, ro, r2, hB⟩
    clear q1 q2 q3 q4 q5 q6
    rw [hv] at hx rh ro
    have hw4 : wd ≤ 4 ∧ o < 9 := by
      have hm := List.mem_of_getElem? hx
      cases one <;> simp [fieldsOf] at hm <;> omega
    obtain ⟨hw4, ho9⟩ := hw4
    have hsz := afterFields_size b ((fieldsOf one).take k)
    have hwt := widths_take one k _ hx
    dsimp only at hwt
    have hsn : afterFields b ((fieldsOf one).take (k + 1)) = fieldStep (afterFields b ((fieldsOf one).take k)) (wd, o) := by
      rw [List.take_add_one, hx]; exact afterFields_snoc _ _ _
    have hcz := afterFields_cells b ((fieldsOf one).take k)
    have hle : wd ≤ (afterFields b ((fieldsOf one).take k)).2.size := by omega
    have hle2 : (afterFields b ((fieldsOf one).take k)).2.size ≤ 100000 := by omega
    generalize afterFields b ((fieldsOf one).take k) = p at *
    obtain ⟨cs, s⟩ := p
    dsimp only at *
    have hc0 : X.cell? ⟨w.heap.size, 0, none⟩ = some (.string s) := ro.cell 0 _ rfl
    have hco : ∃ u, X.cell? ⟨w.heap.size + 1 + 1, o, none⟩ = some u := ⟨cs[o], rh.cell o _ (by simp [hcz, ho9])⟩
    have hn4 : noughts = ⟨#[0, 0, 0, 0]⟩ := rfl
    have hc4 : (s.extract 0 wd ++ noughts.extract wd 4).size = 4 := cat_size s wd hle hw4
    have h0 : (0 : Int) ≤ (wd : Int) := by omega
    have h1 : (wd : Int) ≤ (s.size : Int) := by omega
    have h2 : (wd : Int) ≤ 4 := by omega
    have HSN := Lib.hid hsn
    have HCZ := Lib.hid hcz
    clear hsz hwt hsn hcz
    gi_wp2
    refine wpIn_region_any (by kernel_rfl) ?_
    change wpAnyIn _ _ _ _ _ _ 13 _ _ X.drew
    refine wpAnyIn_lead (wide_round l) 0 (v := (.pointer (some ⟨w.heap.size + 1 + 1, o, none⟩))) rfl (by kernel_rfl) (fun _ _ _ h => h) (Or.inl ⟨by rfl, fun Y => by go_simp⟩) ?_
    simp only [Act.put, List.setIfInBounds_toArray, List.set_cons_zero, List.set_cons_succ]
    refine wpAnyIn_lead (wide_round l) 2 (v := (.int .i64 (wd : Int))) rfl (by kernel_rfl) (fun _ _ _ h => h) (Or.inl ⟨by rfl, fun Y => by go_simp⟩) ?_
    simp only [Act.put, List.setIfInBounds_toArray, List.set_cons_zero, List.set_cons_succ]
    refine wpAnyIn_lead (wide_round l) 4 (v := (.int .i64 (wd : Int))) rfl (by kernel_rfl) (fun _ _ _ h => h) (Or.inl ⟨by rfl, fun Y => by go_simp⟩) ?_
    simp only [Act.put, List.setIfInBounds_toArray, List.set_cons_zero, List.set_cons_succ]
    refine wpAnyIn_lead (wide_round l) 5 (v := (.string (noughts.extract wd 4))) rfl (by kernel_rfl) (fun _ _ _ h => h) (Or.inl ⟨by rfl, fun Y => by go_simp⟩) ?_
    simp only [Act.put, List.setIfInBounds_toArray, List.set_cons_zero, List.set_cons_succ]
    refine wpAnyIn_sole 1 (by kernel_rfl) rfl (fun K hK => ?_)
    go_simp
    refine hK _ _ ?_
    clear hK K
    have hnl : ¬ 9223372036854775807 < (s.extract 0 wd).size + (noughts.extract wd 4).size := by
      rw [← ByteArray.size_append, hc4]; omega
    refine wpAnyIn_lead (wide_round l) 3 (v := (.string (s.extract 0 wd))) rfl (by kernel_rfl) (fun _ _ _ h => h) (Or.inl ⟨by rfl, fun Y => by go_simp⟩) ?_
    simp only [Act.put, List.setIfInBounds_toArray, List.set_cons_zero, List.set_cons_succ]
    refine wpAnyIn_lead (wide_round l) 6 (v := (.string (s.extract 0 wd ++ noughts.extract wd 4))) rfl (by kernel_rfl) (fun _ _ _ h => h) (Or.inl ⟨by rfl, fun Y => by go_simp⟩) ?_
    simp only [Act.put, List.setIfInBounds_toArray, List.set_cons_zero, List.set_cons_succ]
    refine wpAnyIn_sole 7 (by kernel_rfl) rfl (fun K hK => ?_)
    go_simp
    refine ⟨trivial, (wide_round l).calls ((crcGetAny _ hc4 _).mono ?_)⟩
    rintro e w1 ⟨rfl, hb1⟩
    refine hK _ _ ?_
    clear hK K
    have hval : CrcM.get (s.extract 0 wd ++ noughts.extract wd 4).data.toList = valAt s wd := rfl
    rw [hval]
    generalize hxv : valAt s wd = x
    have HXV := Lib.hid hxv
    clear hxv
    refine wpAnyIn_lead (wide_round l) 8 (v := (.tuple #[.int .u32 (x.toNat : Int), .int .i64 0])) rfl (by kernel_rfl) (fun _ _ _ h => h) (Or.inl ⟨by rfl, fun Y => by go_simp⟩) ?_
    simp only [Act.put, List.setIfInBounds_toArray, List.set_cons_zero, List.set_cons_succ]
    refine wpAnyIn_lead (wide_round l) 9 (v := (.int .u32 (x.toNat : Int))) rfl (by kernel_rfl) (fun _ _ _ h => h) (Or.inl ⟨by rfl, fun Y => by go_simp⟩) ?_
    simp only [Act.put, List.setIfInBounds_toArray, List.set_cons_zero, List.set_cons_succ]
    refine wpAnyIn_lead (wide_round l) 10 (v := (.int .i64 0)) rfl (by kernel_rfl) (fun _ _ _ h => h) (Or.inl ⟨by rfl, fun Y => by go_simp⟩) ?_
    simp only [Act.put, List.setIfInBounds_toArray, List.set_cons_zero, List.set_cons_succ]
    refine wpAnyIn_lead (wide_round l) 11 (v := (.pointer (some ⟨w.heap.size + 1 + 1, o, none⟩))) rfl (by kernel_rfl) (fun _ _ _ h => h) (Or.inl ⟨by rfl, fun Y => by go_simp⟩) ?_
    simp only [Act.put, List.setIfInBounds_toArray, List.set_cons_zero, List.set_cons_succ]
    have hlt := ro.lt
    have rh1 : Row w1 (w.heap.size + 1 + 1) cs 47 := (show Row X.drew _ _ _ from rh).below hb1 rh.lt
    have ro1 : Row w1 w.heap.size #[.string s] 9 := (show Row X.drew _ _ _ from ro).below hb1 ro.lt
    have r21 : Row w1 (w.heap.size + 1) zeros9 47 := (show Row X.drew _ _ _ from r2).below hb1 r2.lt
    obtain ⟨u, hu⟩ : ∃ u, cs[o]? = some u := ⟨cs[o]'(by rw [HCZ.out]; exact ho9), Array.getElem?_eq_getElem _⟩
    have hc1 : w1.cell? ⟨w.heap.size + 1 + 1, o, none⟩ = some u := rh1.cell o _ hu
    have hf1 := rh1.thawed o
    refine wpAnyIn_sole 12 (by kernel_rfl) rfl (fun K hK => ?_)
    go_simp
    refine hK _ _ ?_
    clear hK K
    refine wpAnyIn_done (by kernel_rfl) ?_ _
    have rh2 := rh1.set o (.int .u32 (x.toNat : Int))
    have ro2 := ro1.other (p := ⟨w.heap.size + 1 + 1, o, none⟩) (by simp; omega) (.int .u32 (x.toNat : Int))
    have r22 := r21.other (p := ⟨w.heap.size + 1 + 1, o, none⟩) (by simp) (.int .u32 (x.toNat : Int))
    have hb0 : Below X.heap.size X w1 := (Below.refl _ X).drew.trans hb1
    have hk1 : Kept (fun k => k = w.heap.size ∨ k = w.heap.size + 1 + 1) (fun _ => False) X (w1.setCell ⟨w.heap.size + 1 + 1, o, none⟩ (.int .u32 (x.toNat : Int))) := (Kept.of_below hb0).setCell _ _ (.inr rfl)
    have hkf : KeepsFrom V.heap.size X (w1.setCell ⟨w.heap.size + 1 + 1, o, none⟩ (.int .u32 (x.toNat : Int))) := (from_below' hb0).trans ((KeepsOthers.setCell _ _ _).from _)
    have hB2 : Below w.heap.size w (w1.setCell ⟨w.heap.size + 1 + 1, o, none⟩ (.int .u32 (x.toNat : Int))) := (hB.trans (hb0.mono hB.size)).setCell (p := ⟨w.heap.size + 1 + 1, o, none⟩) (by simp; omega) _
    generalize w1.setCell ⟨w.heap.size + 1 + 1, o, none⟩ (.int .u32 (x.toNat : Int)) = Y at *
    have hc2 : Y.cell? ⟨w.heap.size, 0, none⟩ = some (.string s) := ro2.cell 0 _ rfl
    have hf2 := ro2.thawed 0
    clear hc0 hco hc1 hf1 rh ro r2 rh1 ro1 r21 hc4 hnl hn4 h2
    gi_wp2
    refine ⟨hkf.trans ((KeepsOthers.setCell _ _ _).from _), hk1.setCell _ _ (.inl rfl), ?_, ?_, r22.other (by simp) _, hB2.setCell (p := ⟨w.heap.size, 0, none⟩) (Nat.le_refl _) _⟩
    · rw [hv, HSN.out]
      show Row _ _ (cs.setIfInBounds o (.int .u32 ((valAt s wd).toNat : Int))) _
      rw [HXV.out]
      exact rh2.other (by simp; omega) _
    · rw [hv, HSN.out]
      exact ro2.set 0 _
  case done =>
    rintro D X hD ⟨rh, ro, r2, hB⟩ hK
    rw [List.take_length, hv] at rh ro
    have hDne : ¬ D = w.heap.size + 1 := by omega
    have hDw : w.heap.size ≤ D := by omega
    clear q1 q2 q3 q4 q5 q6
    obtain ⟨n0, n1, n2, n3, n4, n5, n6, n7, n8, hcs⟩ := afterFields_nums b one
    obtain ⟨p, hp⟩ : ∃ p, afterFields b (fieldsOf one) = p := ⟨_, rfl⟩
    rw [hp] at rh ro hcs
    have HP := Lib.hid hp
    clear hp
    obtain ⟨cs, s⟩ := p
    dsimp only at rh ro hcs
    subst hcs
    have g0 := ro.cell 0 _ rfl
    have a0 := rh.cell 0 _ rfl; have a1 := rh.cell 1 _ rfl; have a2 := rh.cell 2 _ rfl; have a3 := rh.cell 3 _ rfl; have a4 := rh.cell 4 _ rfl
    have a5 := rh.cell 5 _ rfl; have a6 := rh.cell 6 _ rfl; have a7 := rh.cell 7 _ rfl; have a8 := rh.cell 8 _ rfl
    have z : ∀ o, o < 9 → X.cell? ⟨w.heap.size + 1, o, none⟩ = some (.int .u32 0) := fun o ho => r2.cell o _ (by rcases o with _ | _ | _ | _ | _ | _ | _ | _ | _ | o; all_goals first | rfl | omega)
    have z0 := z 0 (by omega); have z1 := z 1 (by omega); have z2 := z 2 (by omega); have z3 := z 3 (by omega); have z4 := z 4 (by omega); have z5 := z 5 (by omega); have z6 := z 6 (by omega); have z7 := z 7 (by omega); have z8 := z 8 (by omega)
    have y0 := r2.thawed 0; have y1 := r2.thawed 1; have y2 := r2.thawed 2; have y3 := r2.thawed 3; have y4 := r2.thawed 4; have y5 := r2.thawed 5; have y6 := r2.thawed 6; have y7 := r2.thawed 7; have y8 := r2.thawed 8
    clear z hw
    gi_wp2
    go_wp2
    go_region
    have rZ := (row_fill (.int .u32 0) (.int .u32 0) (.int .u32 0) (.int .u32 0) (.int .u32 0) (.int .u32 0) (.int .u32 0) (.int .u32 0) (.int .u32 0) (.int .u32 (n0.toNat : Int)) (.int .u32 (n1.toNat : Int)) (.int .u32 (n2.toNat : Int)) (.int .u32 (n3.toNat : Int)) (.int .u32 (n4.toNat : Int)) (.int .u32 (n5.toNat : Int)) (.int .u32 (n6.toNat : Int)) (.int .u32 (n7.toNat : Int)) (.int .u32 (n8.toNat : Int)) (show Row X (w.heap.size + 1) #[.int .u32 0, .int .u32 0, .int .u32 0, .int .u32 0, .int .u32 0, .int .u32 0, .int .u32 0, .int .u32 0, .int .u32 0] 47 from r2)).drew
    have bZ := (below_fill (.int .u32 (n0.toNat : Int)) (.int .u32 (n1.toNat : Int)) (.int .u32 (n2.toNat : Int)) (.int .u32 (n3.toNat : Int)) (.int .u32 (n4.toNat : Int)) (.int .u32 (n5.toNat : Int)) (.int .u32 (n6.toNat : Int)) (.int .u32 (n7.toNat : Int)) (.int .u32 (n8.toNat : Int)) hB (show w.heap.size ≤ w.heap.size + 1 by omega)).drew
    have kZ := ((keeps_fill X (w.heap.size + 1) (.int .u32 (n0.toNat : Int)) (.int .u32 (n1.toNat : Int)) (.int .u32 (n2.toNat : Int)) (.int .u32 (n3.toNat : Int)) (.int .u32 (n4.toNat : Int)) (.int .u32 (n5.toNat : Int)) (.int .u32 (n6.toNat : Int)) (.int .u32 (n7.toNat : Int)) (.int .u32 (n8.toNat : Int))).trans (KeepsOthers.drew _)).same D _ hK rfl
    change Exit.then _ _ _ _ (fill9 X (w.heap.size + 1) (.int .u32 (n0.toNat : Int)) (.int .u32 (n1.toNat : Int)) (.int .u32 (n2.toNat : Int)) (.int .u32 (n3.toNat : Int)) (.int .u32 (n4.toNat : Int)) (.int .u32 (n5.toNat : Int)) (.int .u32 (n6.toNat : Int)) (.int .u32 (n7.toNat : Int)) (.int .u32 (n8.toNat : Int))).drew
    generalize (fill9 X (w.heap.size + 1) (.int .u32 (n0.toNat : Int)) (.int .u32 (n1.toNat : Int)) (.int .u32 (n2.toNat : Int)) (.int .u32 (n3.toNat : Int)) (.int .u32 (n4.toNat : Int)) (.int .u32 (n5.toNat : Int)) (.int .u32 (n6.toNat : Int)) (.int .u32 (n7.toNat : Int)) (.int .u32 (n8.toNat : Int))).drew = Z at *
    clear a0 a1 a2 a3 a4 a5 a6 a7 a8 z0 z1 z2 z3 z4 z5 z6 z7 z8 y0 y1 y2 y3 y4 y5 y6 y7 y8 g0
    go_wp2
    try rw [Exit.noGoto_ret]
    refine ⟨by simp, .inl ⟨_, _, rfl, run_takeDeferred kZ, ?_⟩⟩
    have rP : Row (Z.putObj D (.deferred none)) (w.heap.size + 1) #[.int .u32 (n0.toNat : Int), .int .u32 (n1.toNat : Int), .int .u32 (n2.toNat : Int), .int .u32 (n3.toNat : Int), .int .u32 (n4.toNat : Int), .int .u32 (n5.toNat : Int), .int .u32 (n6.toNat : Int), .int .u32 (n7.toNat : Int), .int .u32 (n8.toNat : Int)] 47 := (World.putObj_heap_other (fun x => hDne x.symm)).trans rZ
    have p0 := rP.cell 0 _ rfl; have p1 := rP.cell 1 _ rfl; have p2 := rP.cell 2 _ rfl; have p3 := rP.cell 3 _ rfl; have p4 := rP.cell 4 _ rfl; have p5 := rP.cell 5 _ rfl; have p6 := rP.cell 6 _ rfl; have p7 := rP.cell 7 _ rfl; have p8 := rP.cell 8 _ rfl
    refine ⟨.tuple #[.agg #[.int .u32 (n0.toNat : Int), .int .u32 (n1.toNat : Int), .int .u32 (n2.toNat : Int), .int .u32 (n3.toNat : Int), .int .u32 (n4.toNat : Int), .int .u32 (n5.toNat : Int), .int .u32 (n6.toNat : Int), .int .u32 (n7.toNat : Int), .int .u32 (n8.toNat : Int)], .string s], ?_, by rw [HP.out], bZ.trans (belowK_b (w := w) (Nat.le_refl _) _ D _ _ hDw kZ rfl rfl)⟩
    simp [results, Tryd.results29, go_sem, p0, p1, p2, p3, p4, p5, p6, p7, p8]
  case stop =>
    rintro D c k X hD hk h hK
    exact h.elim
set_option maxRecDepth 100000 in
theorem frameOf (n0 n1 n2 n3 n4 n5 n6 n7 n8 : BitVec 32) (data : ByteArray) (w : World) :
    Calls Tryd.prog 30 #[.agg #[.int .u32 (n0.toNat : Int), .int .u32 (n1.toNat : Int), .int .u32 (n2.toNat : Int), .int .u32 (n3.toNat : Int), .int .u32 (n4.toNat : Int), .int .u32 (n5.toNat : Int), .int .u32 (n6.toNat : Int), .int .u32 (n7.toNat : Int), .int .u32 (n8.toNat : Int)], .string data] w fun e w' =>
      e = .returned (Fr.mk (n1.toNat : Int) (n2.toNat : Int) ((n3.toNat : Int) / 16) ((n3.toNat : Int) % 16) n4 n5 n6 n7 data).val ∧ Below w.heap.size w w' := by
  go_enter Tryd.func30, Tryd.ntmps30
  go_wp2
  exact bodyPost_ret (v := (Fr.mk (n1.toNat : Int) (n2.toNat : Int) ((n3.toNat : Int) / 16) ((n3.toNat : Int) % 16) n4 n5 n6 n7 data).val) (by simp [results, Tryd.results30, go_sem, Fr.val, Fr.cells]) rfl ⟨rfl, ((Below.refl _ _).alloc (Nat.le_refl _) _).alloc (by simp) _⟩
end Go.Proofs.YtphfnlgjiomjkaaDoor
