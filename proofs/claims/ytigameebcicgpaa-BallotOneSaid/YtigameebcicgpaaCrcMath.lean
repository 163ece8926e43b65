/-
  Check sums over bit vectors and lists of bytes: plain mathematics, no program: a step is linear and one to one; what a change does to a sum; which changes are found.
-/
namespace Go.Proofs.Ytigameebcicgpaa.CrcM

/-- One step by one bit. -/
def F (x : BitVec 32) : BitVec 32 := (x >>> 1) ^^^ (if x.getLsbD 0 = true then 0xedb88320#32 else 0#32)
/-- k steps by one bit each. -/
def Fn : Nat → BitVec 32 → BitVec 32
  | 0, x => x
  | k + 1, x => Fn k (F x)
theorem Fn_succ' (k : Nat) (x : BitVec 32) : Fn (k + 1) x = F (Fn k x) := by
  induction k generalizing x with
  | zero => rfl
  | succ k ih => exact ih (F x)
theorem F_xor (x y : BitVec 32) : F (x ^^^ y) = F x ^^^ F y := by
  have hz : (x ^^^ y).getLsbD 0 = (x.getLsbD 0 ^^ y.getLsbD 0) := BitVec.getLsbD_xor
  have hs : (x ^^^ y) >>> 1 = (x >>> 1) ^^^ (y >>> 1) := BitVec.ushiftRight_xor_distrib x y 1
  simp only [F, hz, hs]
  generalize x >>> 1 = a
  generalize y >>> 1 = b
  generalize 0xedb88320#32 = p
  cases x.getLsbD 0 <;> cases y.getLsbD 0
  · simp
  · simp [BitVec.xor_assoc]
  · simp only [Bool.bne_false, if_true, Bool.false_eq_true, if_false, BitVec.xor_zero]
    ac_rfl
  · simp only [Bool.bne_true, Bool.not_true, if_true, Bool.false_eq_true, if_false, BitVec.xor_zero]
    rw [show a ^^^ p ^^^ (b ^^^ p) = a ^^^ b ^^^ (p ^^^ p) from by ac_rfl, BitVec.xor_self, BitVec.xor_zero]
theorem F_zero : F 0#32 = 0#32 := by decide
theorem F_top (x : BitVec 32) : (F x).getLsbD 31 = x.getLsbD 0 := by
  simp only [F]
  cases x.getLsbD 0 <;> simp [BitVec.getLsbD_of_ge]
theorem F_eq_zero {x : BitVec 32} (h : F x = 0#32) : x = 0#32 := by
  have h0 : x.getLsbD 0 = false := by rw [← F_top, h]; simp
  have h1 : x >>> 1 = 0#32 := by
    unfold F at h
    rw [h0] at h
    simpa using h
  apply BitVec.eq_of_getLsbD_eq
  intro i hi
  cases i with
  | zero => simpa using h0
  | succ i =>
    have := congrArg (fun z => BitVec.getLsbD z i) h1
    simpa [BitVec.getLsbD_ushiftRight, Nat.add_comm] using this
theorem Fn_xor (k : Nat) (x y : BitVec 32) : Fn k (x ^^^ y) = Fn k x ^^^ Fn k y := by
  induction k generalizing x y with
  | zero => rfl
  | succ k ih => simp only [Fn, F_xor, ih]
theorem Fn_zero (k : Nat) : Fn k 0#32 = 0#32 := by
  induction k with
  | zero => rfl
  | succ k ih => simp only [Fn, F_zero, ih]
theorem Fn_eq_zero {k : Nat} {x : BitVec 32} (h : Fn k x = 0#32) : x = 0#32 := by
  induction k generalizing x with
  | zero => exact h
  | succ k ih => exact F_eq_zero (ih h)
theorem xor_eq_zero {x y : BitVec 32} (h : x ^^^ y = 0#32) : x = y := by
  have := congrArg (· ^^^ y) h
  simpa [BitVec.xor_assoc] using this
theorem Fn_inj {k : Nat} {x y : BitVec 32} (h : Fn k x = Fn k y) : x = y := by
  apply xor_eq_zero
  apply Fn_eq_zero (k := k)
  rw [Fn_xor, h, BitVec.xor_self]
theorem Fn_add (j k : Nat) (x : BitVec 32) : Fn (j + k) x = Fn k (Fn j x) := by
  induction j generalizing x with
  | zero => simp [Fn]
  | succ j ih => rw [Nat.succ_add]; exact ih (F x)

/-- A step by a byte. -/
def step (s : BitVec 32) (b : UInt8) : BitVec 32 := Fn 8 (s ^^^ BitVec.ofNat 32 b.toNat)
/-- Steps by bytes, in order. -/
def reg (r : BitVec 32) (l : List UInt8) : BitVec 32 := l.foldl step r
def more (n : BitVec 32) (l : List UInt8) : BitVec 32 := ~~~ (reg (~~~ n) l)
def sum (l : List UInt8) : BitVec 32 := more 0#32 l
theorem reg_nil (r : BitVec 32) : reg r [] = r := rfl
theorem reg_cons (r : BitVec 32) (b : UInt8) (l : List UInt8) : reg r (b :: l) = reg (step r b) l := rfl
theorem reg_append (r : BitVec 32) (a b : List UInt8) : reg r (a ++ b) = reg (reg r a) b := by simp [reg]
theorem reg_snoc (r : BitVec 32) (a : List UInt8) (b : UInt8) : reg r (a ++ [b]) = step (reg r a) b := by simp [reg]
theorem more_nil (n : BitVec 32) : more n [] = n := by simp [more, reg_nil]
theorem more_append (n : BitVec 32) (a b : List UInt8) : more (more n a) b = more n (a ++ b) := by simp [more, reg_append]
theorem ofNat_xor_byte (a b : UInt8) : BitVec.ofNat 32 (a ^^^ b).toNat = BitVec.ofNat 32 a.toNat ^^^ BitVec.ofNat 32 b.toNat := by
  rw [UInt8.toNat_xor, BitVec.ofNat_xor]
theorem step_xor (s t : BitVec 32) (a b : UInt8) : step (s ^^^ t) (a ^^^ b) = step s a ^^^ step t b := by
  simp only [step, ofNat_xor_byte]
  rw [← Fn_xor]
  congr 1
  ac_rfl
theorem reg_xor (a b : List UInt8) (h : a.length = b.length) (s t : BitVec 32) : reg (s ^^^ t) (List.zipWith (· ^^^ ·) a b) = reg s a ^^^ reg t b := by
  induction a generalizing b s t with
  | nil => cases b with
    | nil => rfl
    | cons y b => simp at h
  | cons x a ih => cases b with
    | nil => simp at h
    | cons y b => simp only [List.zipWith_cons_cons, reg_cons, step_xor]; exact ih b (by simpa using h) _ _

/-- n bits of a number, the least first, each a step. -/
def G : Nat → BitVec 32 → Nat → BitVec 32
  | 0, r, _ => r
  | n + 1, r, M => G n (F (r ^^^ BitVec.ofNat 32 (M % 2))) (M / 2)
theorem G_add (j k : Nat) (r : BitVec 32) (M : Nat) : G (j + k) r M = G k (G j r M) (M / 2 ^ j) := by
  induction j generalizing r M with
  | zero => simp [G]
  | succ j ih =>
    rw [Nat.succ_add]
    simp only [G]
    rw [ih, Nat.pow_succ, Nat.div_div_eq_div_mul, Nat.mul_comm 2]
theorem F_even (m : Nat) (hm : m < 2 ^ 31) : F (BitVec.ofNat 32 (2 * m)) = BitVec.ofNat 32 m := by
  have h0 : (BitVec.ofNat 32 (2 * m)).getLsbD 0 = false := by rw [BitVec.getLsbD_ofNat]; simp
  simp only [F, h0]
  apply BitVec.eq_of_toNat_eq
  simp [Nat.shiftRight_eq_div_pow]
  omega
theorem split_low (M n : Nat) : BitVec.ofNat 32 (M % 2 ^ (n + 1)) = BitVec.ofNat 32 (M % 2) ^^^ BitVec.ofNat 32 (2 * (M / 2 % 2 ^ n)) := by
  rw [← BitVec.ofNat_xor]
  congr 1
  apply Nat.eq_of_testBit_eq
  intro i
  rw [Nat.testBit_xor, Nat.testBit_mod_two_pow]
  cases i with
  | zero => simp
  | succ i =>
    have h2 : (M % 2).testBit (i + 1) = false := Nat.testBit_lt_two_pow (by
      have : 2 ^ 1 ≤ 2 ^ (i + 1) := Nat.pow_le_pow_right (by omega) (by omega)
      omega)
    rw [h2, Nat.mul_comm 2, ← Nat.pow_one 2, ← Nat.shiftLeft_eq, Nat.testBit_shiftLeft]
    simp [Nat.testBit_mod_two_pow, Nat.testBit_succ]
theorem G_small (n : Nat) (hn : n ≤ 32) (r : BitVec 32) (M : Nat) : G n r M = Fn n (r ^^^ BitVec.ofNat 32 (M % 2 ^ n)) := by
  induction n generalizing r M with
  | zero => simp [G, Fn, Nat.mod_one]
  | succ n ih =>
    have hlt : M / 2 % 2 ^ n < 2 ^ 31 := Nat.lt_of_lt_of_le (Nat.mod_lt _ (Nat.two_pow_pos n)) (Nat.pow_le_pow_right (by omega) (by omega))
    simp only [G, Fn]
    rw [ih (by omega), split_low M n, ← BitVec.xor_assoc, F_xor (r ^^^ _), F_even _ hlt]
theorem G_zeros (n : Nat) (r : BitVec 32) : G n r 0 = Fn n r := by
  induction n generalizing r with
  | zero => rfl
  | succ n ih => simp [G, Fn, ih]
/-- The n bytes of a number, the least first. -/
def bytesN : Nat → Nat → List UInt8
  | 0, _ => []
  | n + 1, M => UInt8.ofNat M :: bytesN n (M / 256)
theorem bytesN_length (n M : Nat) : (bytesN n M).length = n := by
  induction n generalizing M with
  | zero => rfl
  | succ n ih => simp [bytesN, ih]
theorem bytesN_get (n M j : Nat) (h : j < n) : (bytesN n M)[j]? = some (UInt8.ofNat (M / 256 ^ j)) := by
  induction n generalizing M j with
  | zero => omega
  | succ n ih => cases j with
    | zero => simp [bytesN]
    | succ j => simp only [bytesN, List.getElem?_cons_succ]; rw [ih _ _ (by omega), Nat.div_div_eq_div_mul, Nat.pow_succ, Nat.mul_comm 256]
theorem reg_bytesN (n : Nat) (r : BitVec 32) (M : Nat) : reg r (bytesN n M) = G (8 * n) r M := by
  induction n generalizing r M with
  | zero => rfl
  | succ n ih =>
    rw [bytesN, reg_cons, ih, show 8 * (n + 1) = 8 + 8 * n from by omega, G_add, G_small 8 (by omega)]
    simp [step, UInt8.toNat_ofNat']
/-- A number whose bits begin at a bit: what lies ahead of it changes nothing. -/
theorem G_shift (b n M : Nat) : G (b + n) 0#32 (M * 2 ^ b) = G n 0#32 M := by
  rw [G_add, Nat.mul_div_cancel _ (Nat.two_pow_pos b)]
  congr 1
  induction b generalizing M with
  | zero => rfl
  | succ b ih =>
    have h1 : M * 2 ^ (b + 1) % 2 = 0 := by rw [Nat.pow_succ, ← Nat.mul_assoc]; omega
    have h2 : M * 2 ^ (b + 1) / 2 = M * 2 ^ b := by rw [Nat.pow_succ, ← Nat.mul_assoc]; omega
    simp only [G, h1, h2]
    simpa [F_zero] using ih M
/-- **At most 32 bits in a row are found.** -/
theorem G_burst (n M : Nat) (hM : M < 2 ^ 32) (h : G n 0#32 M = 0#32) : M % 2 ^ n = 0 := by
  by_cases hn : n ≤ 32
  · rw [G_small n hn] at h
    have h1 := Fn_eq_zero h
    have h2 := congrArg BitVec.toNat h1
    have : M % 2 ^ n < 2 ^ 32 := Nat.lt_of_le_of_lt (Nat.mod_le _ _) hM
    simpa [Nat.mod_eq_of_lt this] using h2
  · rw [show n = 32 + (n - 32) from by omega, G_add, G_small 32 (by omega), show M / 2 ^ 32 = 0 from by omega, G_zeros] at h
    have h1 := Fn_eq_zero (Fn_eq_zero h)
    have h2 := congrArg BitVec.toNat h1
    have h3 : M = 0 := by simpa [Nat.mod_eq_of_lt hM] using h2
    simp [h3]
/-- Bytes, changed: the mask's bits, from a bit on. -/
def chg (l : List UInt8) (bit : Nat) (mask : Nat) : List UInt8 := List.zipWith (· ^^^ ·) l (bytesN l.length (mask * 2 ^ bit))
theorem chg_length (l : List UInt8) (bit mask : Nat) : (chg l bit mask).length = l.length := by simp [chg, bytesN_length]
theorem chg_get (l : List UInt8) (bit mask j : Nat) (h : j < l.length) : (chg l bit mask)[j]? = some (l[j] ^^^ UInt8.ofNat (mask * 2 ^ bit / 256 ^ j)) := by
  simp [chg, List.getElem?_zipWith, bytesN_get _ _ _ h, h]
theorem reg_chg (r : BitVec 32) (l : List UInt8) (bit mask : Nat) : reg r (chg l bit mask) = reg r l ^^^ G (8 * l.length) 0#32 (mask * 2 ^ bit) := by
  have := reg_xor l (bytesN l.length (mask * 2 ^ bit)) (bytesN_length _ _).symm r 0#32
  rw [reg_bytesN] at this
  simpa [chg] using this
theorem bytesN_zero (n M : Nat) (h : M % 2 ^ (8 * n) = 0) : bytesN n M = List.replicate n 0 := by
  induction n generalizing M with
  | zero => rfl
  | succ n ih =>
    have e : 2 ^ (8 * (n + 1)) = 256 * 2 ^ (8 * n) := by rw [show 8 * (n + 1) = 8 + 8 * n from by omega, Nat.pow_add]
    rw [e] at h
    obtain ⟨q, hq⟩ := Nat.dvd_of_mod_eq_zero h
    have h0 : M % 256 = 0 := by rw [hq, Nat.mul_assoc]; omega
    have h1 : M / 256 % 2 ^ (8 * n) = 0 := by
      rw [hq, Nat.mul_assoc, Nat.mul_div_cancel_left _ (by omega), Nat.mul_mod_right]
    rw [bytesN, ih _ h1, List.replicate_succ]
    congr 1
    apply UInt8.toNat_inj.1
    simpa using h0
theorem zipWith_zero (l : List UInt8) : List.zipWith (· ^^^ ·) l (List.replicate l.length 0) = l := by
  induction l with
  | nil => rfl
  | cons x l ih => simp [List.replicate_succ, ih]
/-- **A change that a sum does not see is none.** -/
theorem chg_same (r : BitVec 32) (l : List UInt8) (bit mask : Nat) (hm : mask < 2 ^ 32) (hb : bit ≤ 8 * l.length) (h : reg r (chg l bit mask) = reg r l) : chg l bit mask = l := by
  rw [reg_chg] at h
  have h0 : G (8 * l.length) 0#32 (mask * 2 ^ bit) = 0#32 := by
    have := congrArg (reg r l ^^^ ·) h
    simpa [← BitVec.xor_assoc] using this
  rw [show 8 * l.length = bit + (8 * l.length - bit) from by omega, G_shift] at h0
  have h1 := G_burst _ _ hm h0
  have h2 : mask * 2 ^ bit % 2 ^ (8 * l.length) = 0 := by
    rw [show 8 * l.length = (8 * l.length - bit) + bit from by omega, Nat.pow_add, Nat.mul_mod_mul_right, h1, Nat.zero_mul]
  rw [chg, bytesN_zero _ _ h2, zipWith_zero]
theorem chg_ne (l : List UInt8) (bit : Nat) (h : bit < 8 * l.length) : chg l bit 1 ≠ l := by
  intro e
  have hj : bit / 8 < l.length := by omega
  have h1 := chg_get l bit 1 (bit / 8) hj
  rw [e, List.getElem?_eq_getElem hj] at h1
  have h2 := Option.some.inj h1
  have h3 : UInt8.ofNat (1 * 2 ^ bit / 256 ^ (bit / 8)) = 0 := by
    have := congrArg (l[bit / 8] ^^^ ·) h2
    simpa [← UInt8.xor_assoc] using this.symm
  have h4 : 1 * 2 ^ bit / 256 ^ (bit / 8) = 2 ^ (bit % 8) := by
    rw [Nat.one_mul, show (256 : Nat) = 2 ^ 8 from rfl, ← Nat.pow_mul]
    conv => lhs; rw [show bit = 8 * (bit / 8) + bit % 8 from by omega, Nat.pow_add]
    rw [show (8 * (bit / 8) + bit % 8) / 8 = bit / 8 from by omega, Nat.mul_div_cancel_left _ (Nat.two_pow_pos _)]
  rw [h4] at h3
  have h5 := congrArg UInt8.toNat h3
  have h6 : bit % 8 < 8 := by omega
  generalize bit % 8 = q at *
  have : q = 0 ∨ q = 1 ∨ q = 2 ∨ q = 3 ∨ q = 4 ∨ q = 5 ∨ q = 6 ∨ q = 7 := by omega
  rcases this with rfl | rfl | rfl | rfl | rfl | rfl | rfl | rfl <;> simp at h5
theorem chg_chg (l : List UInt8) (bit mask : Nat) : chg (chg l bit mask) bit mask = l := by
  apply List.ext_getElem?
  intro j
  by_cases h : j < l.length
  · rw [chg_get _ _ _ _ (by rw [chg_length]; exact h), List.getElem?_eq_getElem h]
    have := chg_get l bit mask j h
    rw [List.getElem?_eq_getElem (by rw [chg_length]; exact h)] at this
    rw [Option.some.inj this, UInt8.xor_assoc, UInt8.xor_self, UInt8.xor_zero]
  · rw [List.getElem?_eq_none (by simpa [chg_length] using h), List.getElem?_eq_none (by omega)]

/-- A number's four bytes. -/
def put (n : BitVec 32) : List UInt8 := bytesN 4 n.toNat
theorem put_length (n : BitVec 32) : (put n).length = 4 := bytesN_length _ _
def get (l : List UInt8) : BitVec 32 := BitVec.ofNat 32 ((l.getD 0 0).toNat + 256 * (l.getD 1 0).toNat + 65536 * (l.getD 2 0).toNat + 16777216 * (l.getD 3 0).toNat)
theorem get_put (n : BitVec 32) : get (put n) = n := by
  apply BitVec.eq_of_toNat_eq
  have := n.isLt
  simp [get, put, bytesN, UInt8.toNat_ofNat']
  omega
theorem put_get (l : List UInt8) (h : l.length = 4) : put (get l) = l := by
  match l, h with
  | [a, b, c, d], _ =>
    have ha := a.toNat_lt; have hb := b.toNat_lt; have hc := c.toNat_lt; have hd := d.toNat_lt
    simp only [put, get, bytesN, List.getD_cons_zero, List.getD_cons_succ, BitVec.toNat_ofNat, List.cons.injEq, and_true]
    refine ⟨?_, ?_, ?_, ?_⟩ <;> apply UInt8.toNat_inj.1 <;> rw [UInt8.toNat_ofNat'] <;> omega
def withSum (l : List UInt8) : List UInt8 := l ++ put (sum l)
/-- What is there of bytes that are sealed. -/
def opened (l : List UInt8) : Bool := decide (4 ≤ l.length) && (l.drop (l.length - 4) == put (sum (l.take (l.length - 4))))
theorem reg_put (r n : BitVec 32) : reg r (put n) = Fn 32 (r ^^^ n) := by
  rw [put, reg_bytesN, G_small 32 (by omega), Nat.mod_eq_of_lt n.isLt, BitVec.ofNat_toNat, BitVec.setWidth_eq]
theorem xor_not (q : BitVec 32) : q ^^^ ~~~ q = ~~~ 0#32 := by
  apply BitVec.eq_of_getLsbD_eq
  intro i hi
  rw [BitVec.getLsbD_xor, BitVec.getLsbD_not, BitVec.getLsbD_not]
  cases q.getLsbD i <;> simp [hi]
theorem xor_ones (q : BitVec 32) : q ^^^ ~~~ 0#32 = ~~~ q := by
  rw [← xor_not q, ← BitVec.xor_assoc, BitVec.xor_self, BitVec.zero_xor]
theorem reg_seal (l : List UInt8) : reg (~~~ 0#32) (withSum l) = Fn 32 (~~~ 0#32) := by
  rw [withSum, reg_append, reg_put]
  congr 1
  simp only [sum, more]
  exact xor_not _
theorem opened_iff (l : List UInt8) (h : 4 ≤ l.length) : opened l = true ↔ reg (~~~ 0#32) l = Fn 32 (~~~ 0#32) := by
  have hl : l = l.take (l.length - 4) ++ l.drop (l.length - 4) := (List.take_append_drop _ _).symm
  generalize ha : l.take (l.length - 4) = a at *
  generalize hp : l.drop (l.length - 4) = p at *
  have h4 : p.length = 4 := by rw [← hp, List.length_drop]; omega
  simp only [opened, ha, hp, h, decide_true, Bool.true_and, beq_iff_eq]
  constructor
  · intro e
    rw [hl, e]
    exact reg_seal a
  · intro e
    rw [hl, reg_append, ← put_get p h4, reg_put] at e
    have e1 := Fn_inj e
    rw [← put_get p h4]
    congr 1
    simp only [sum, more]
    generalize reg (~~~ 0#32) a = q at *
    have e2 := congrArg (q ^^^ ·) e1
    simp only [← BitVec.xor_assoc, BitVec.xor_self, BitVec.zero_xor] at e2
    rw [e2]
    exact xor_ones q
theorem opened_seal (l : List UInt8) : opened (withSum l) = true := by
  rw [opened_iff _ (by simp [withSum, put_length])]
  exact reg_seal l
theorem seal_length (l : List UInt8) : (withSum l).length = l.length + 4 := by simp [withSum, put_length]
theorem seal_take (l : List UInt8) : (withSum l).take ((withSum l).length - 4) = l := by simp [withSum, put_length]
/-- **What is sealed and then changed is not opened.** -/
theorem changed_not_opened (l : List UInt8) (bit mask : Nat) (hm : mask < 2 ^ 32) (hb : bit ≤ 8 * (withSum l).length) (hne : chg (withSum l) bit mask ≠ withSum l) : opened (chg (withSum l) bit mask) = false := by
  have h4 : 4 ≤ (chg (withSum l) bit mask).length := by rw [chg_length, seal_length]; omega
  cases ho : opened (chg (withSum l) bit mask) with
  | false => rfl
  | true =>
    exfalso
    rw [opened_iff _ h4, ← reg_seal l] at ho
    exact hne (chg_same _ _ _ _ hm hb ho)
end Go.Proofs.Ytigameebcicgpaa.CrcM
