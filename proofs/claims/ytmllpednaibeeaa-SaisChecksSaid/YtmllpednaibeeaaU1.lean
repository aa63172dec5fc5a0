/- PLAIN FACTS OF WORDS OF 64 BITS: one bit asked, set, cleared; the end cut off. No program is named here. PLAIN FACTS: how many bits of a word are 1, by bytes; the sums that count them side by side. No program is named here. -/
import Derived.Test.YtmllpednaibeeaaU0
import Derived.Laws.BitsAllLaws
import Derived.Laws.ShiftsVarLaws
namespace Go.Inc
open Go.RowKit

theorem W64 : (2 : Nat) ^ 64 = 18446744073709551616 := by decide
theorem wget_lt {W : List Nat} (h : ∀ x ∈ W, x < 18446744073709551616) (q : Nat) : W.getD q 0 < 18446744073709551616 := by
  rw [List.getD_eq_getElem?_getD]
  cases hq : W[q]? with
  | none => simp
  | some x => exact h x (List.mem_of_getElem? hq)
theorem wset_lt {W : List Nat} (h : ∀ x ∈ W, x < 18446744073709551616) {q y : Nat} (hy : y < 18446744073709551616) : ∀ x ∈ W.set q y, x < 18446744073709551616 := fun x hx => by
  rcases List.mem_or_eq_of_mem_set hx with h1 | rfl
  · exact h x h1
  · exact hy
theorem pow_lt64 (k : Nat) : 2 ^ (k % 64) < 18446744073709551616 := by rw [← W64]; exact Nat.pow_lt_pow_right (by decide) (Nat.mod_lt _ (by decide))
theorem and_bit (x k : Nat) : x &&& 2 ^ k = if x.testBit k then 2 ^ k else 0 := by
  apply Nat.eq_of_testBit_eq
  intro j
  rw [Nat.testBit_and, bit_one]
  by_cases h : k = j
  · subst h
    cases hx : x.testBit k <;> simp
  · have : decide (k = j) = false := by simp [h]
    rw [this, Bool.and_false]
    split
    · rw [bit_one, this]
    · simp
theorem and_bit_ne {x k : Nat} : (x &&& 2 ^ k ≠ 0) ↔ x.testBit k = true := by
  rw [and_bit]
  split
  · rename_i h; simp [h]
  · rename_i h; simp [h]
/-- All but y's bits. -/
theorem not64_bit {y : Nat} (hy : y < 18446744073709551616) (j : Nat) : (18446744073709551615 - y).testBit j = (decide (j < 64) && !y.testBit j) := by
  have := Nat.testBit_two_pow_sub_succ (x := y) (n := 64) (by rw [W64]; exact hy) j
  rw [W64] at this
  rw [← this]
  congr 1
  omega
theorem lt_bit {x j : Nat} (hx : x < 18446744073709551616) (h : x.testBit j = true) : j < 64 := by
  rcases Nat.lt_or_ge j 64 with h1 | h1
  · exact h1
  · rw [Nat.testBit_lt_two_pow (Nat.lt_of_lt_of_le hx (by rw [← W64]; exact Nat.pow_le_pow_right (by decide) h1))] at h
    cases h
theorem andNot_bit {x y : Nat} (hx : x < 18446744073709551616) (hy : y < 18446744073709551616) (j : Nat) : (x &&& (18446744073709551615 - y)).testBit j = (x.testBit j && !y.testBit j) := by
  rw [Nat.testBit_and, not64_bit hy]
  cases h : x.testBit j
  · simp
  · simp [lt_bit hx h]
theorem and_lt64 {x : Nat} (hx : x < 18446744073709551616) (y : Nat) : x &&& y < 18446744073709551616 := Nat.lt_of_le_of_lt Nat.and_le_left hx
theorem or_lt64 {x y : Nat} (hx : x < 18446744073709551616) (hy : y < 18446744073709551616) : x ||| y < 18446744073709551616 := by rw [← W64] at *; exact Nat.or_lt_two_pow hx hy
theorem xor_lt64 {x y : Nat} (hx : x < 18446744073709551616) (hy : y < 18446744073709551616) : x ^^^ y < 18446744073709551616 := by rw [← W64] at *; exact Nat.xor_lt_two_pow hx hy
theorem wbit_less {W : List Nat} (hW : ∀ x ∈ W, x < 18446744073709551616) {i : Nat} (h : i / 64 < W.length) (j : Nat) : wbit (W.set (i / 64) (W.getD (i / 64) 0 &&& (18446744073709551615 - 2 ^ (i % 64)))) j = (!decide (j = i) && wbit W j) := by
  rw [wbit_word h]
  by_cases hq : j / 64 = i / 64
  · rw [if_pos hq, andNot_bit (wget_lt hW _) (pow_lt64 i), bit_one]
    have e : (i % 64 = j % 64) = (j = i) := propext (by omega)
    unfold wbit
    rw [hq]
    simp only [e]
    exact Bool.and_comm _ _
  · rw [if_neg hq]
    have : ¬ j = i := fun h => hq (by rw [h])
    simp [this]
/-- What lies from a bit on. -/
theorem beyond_bit (x o j : Nat) : (x >>> o <<< o).testBit j = (decide (o ≤ j) && x.testBit j) := by
  rw [Nat.testBit_shiftLeft]
  by_cases h : o ≤ j
  · rw [Nat.testBit_shiftRight]
    simp [h]
  · simp [h]
theorem beyond_le (x o : Nat) : x >>> o <<< o ≤ x := by
  rw [Nat.shiftLeft_eq, Nat.shiftRight_eq_div_pow]
  exact Nat.div_mul_le_self x (2 ^ o)
/-- Words that say the same of each number are the same. -/
theorem words_ext {A B : List Nat} (hl : A.length = B.length) (hA : ∀ x ∈ A, x < 18446744073709551616) (hB : ∀ x ∈ B, x < 18446744073709551616) (h : ∀ i, wbit A i = wbit B i) : A = B := by
  apply List.ext_getElem hl
  intro q h1 h2
  apply Nat.eq_of_testBit_eq
  intro j
  rcases Nat.lt_or_ge j 64 with hj | hj
  · have := h (64 * q + j)
    unfold wbit at this
    rw [show (64 * q + j) / 64 = q from by omega, show (64 * q + j) % 64 = j from by omega, List.getD_eq_getElem?_getD, List.getD_eq_getElem?_getD, List.getElem?_eq_getElem h1, List.getElem?_eq_getElem h2] at this
    exact this
  · have hp : (18446744073709551616 : Nat) ≤ 2 ^ j := by rw [← W64]; exact Nat.pow_le_pow_right (by decide) hj
    rw [Nat.testBit_lt_two_pow (Nat.lt_of_lt_of_le (hA _ (List.getElem_mem h1)) hp), Nat.testBit_lt_two_pow (Nat.lt_of_lt_of_le (hB _ (List.getElem_mem h2)) hp)]
end Go.Inc
namespace Go.Inc
open Go.RowKit

theorem cntTo_add (f : Nat → Bool) (a : Nat) : ∀ b, cntTo f (a + b) = cntTo f a + cntTo (fun j => f (a + j)) b
  | 0 => rfl
  | b + 1 => by
    have ih := cntTo_add f a b
    rw [show a + (b + 1) = (a + b) + 1 from rfl]
    cases h : f (a + b)
    · rw [cntTo_out h, cntTo_out (f := fun j => f (a + j)) h, ih]
    · rw [cntTo_in h, cntTo_in (f := fun j => f (a + j)) h, ih]; omega
theorem cntTo_congr {f g : Nat → Bool} {k : Nat} (h : ∀ i, i < k → f i = g i) : cntTo f k = cntTo g k := by unfold cntTo; rw [numsTo_congr h]
theorem cntTo_gap {f : Nat → Bool} {k : Nat} (n : Nat) (h : ∀ i, k ≤ i → i < k + n → f i = false) : cntTo f (k + n) = cntTo f k := by unfold cntTo; rw [numsTo_gap n h]
/-- A number's bits that are 1, below n. -/
def popN (x n : Nat) : Nat := cntTo (fun j => x.testBit j) n
theorem popN_byte (x n : Nat) : popN x (8 + n) = popN (x % 256) 8 + popN (x / 256) n := by
  unfold popN
  rw [cntTo_add]
  congr 1
  · exact cntTo_congr fun i hi => by
      rw [show 256 = 2 ^ 8 from rfl, Nat.testBit_mod_two_pow, decide_eq_true hi, Bool.true_and]
  · exact cntTo_congr fun i hi => by
      rw [show 256 = 2 ^ 8 from rfl, Nat.testBit_div_two_pow, Nat.add_comm]
/-- A byte's bits, one after the other. -/
def pop8B (b : Nat) : Nat := b % 2 + b / 2 % 2 + b / 4 % 2 + b / 8 % 2 + b / 16 % 2 + b / 32 % 2 + b / 64 % 2 + b / 128 % 2
theorem popN_succ (x n : Nat) : popN x (1 + n) = x % 2 + popN (x / 2) n := by
  unfold popN
  rw [cntTo_add]
  congr 1
  · have h0 : x.testBit 0 = decide (x % 2 = 1) := Nat.testBit_zero x
    by_cases h : x % 2 = 1
    · rw [show (1 : Nat) = 0 + 1 from rfl, cntTo_in (by rw [h0, decide_eq_true h])]; unfold cntTo; simp [numsTo]; omega
    · rw [show (1 : Nat) = 0 + 1 from rfl, cntTo_out (by rw [h0]; simp [h])]; unfold cntTo; simp [numsTo]; omega
  · exact cntTo_congr fun i _ => by rw [Nat.add_comm 1 i, Nat.testBit_succ]
theorem popN_8 (b : Nat) : popN b 8 = pop8B b := by
  have e : ∀ n, popN n 0 = 0 := fun _ => rfl
  rw [show (8 : Nat) = 1 + 7 from rfl, popN_succ, show (7 : Nat) = 1 + 6 from rfl, popN_succ, show (6 : Nat) = 1 + 5 from rfl, popN_succ, show (5 : Nat) = 1 + 4 from rfl, popN_succ, show (4 : Nat) = 1 + 3 from rfl, popN_succ, show (3 : Nat) = 1 + 2 from rfl, popN_succ, show (2 : Nat) = 1 + 1 from rfl, popN_succ, show (1 : Nat) = 1 + 0 from rfl, popN_succ, e]
  unfold pop8B
  simp only [Nat.div_div_eq_div_mul, Nat.reduceMul, Nat.add_zero, Nat.reduceAdd]
  omega
/-- Its lowest byte and the rest, apart. -/
theorem and_split (a b c d : Nat) (ha : a < 256) (hc : c < 256) : (a + 256 * b) &&& (c + 256 * d) = (a &&& c) + 256 * (b &&& d) := by
  have h1 : ((a + 256 * b) &&& (c + 256 * d)) % 2 ^ 8 = a &&& c := by
    rw [Nat.and_mod_two_pow, show (a + 256 * b) % 2 ^ 8 = a from by omega, show (c + 256 * d) % 2 ^ 8 = c from by omega]
  have h2 : ((a + 256 * b) &&& (c + 256 * d)) / 2 ^ 8 = b &&& d := by
    rw [Nat.and_div_two_pow, show (a + 256 * b) / 2 ^ 8 = b from by omega, show (c + 256 * d) / 2 ^ 8 = d from by omega]
  omega
/-- A mask of n bytes c. -/
def maskN (c : Nat) : Nat → Nat
  | 0 => 0
  | n + 1 => c + 256 * maskN c n
theorem maskN_succ (c n : Nat) : maskN c (n + 1) = c + 256 * maskN c n := rfl
theorem byte_all {p : Nat → Prop} [DecidablePred p] (h : (List.range 256).all fun b => decide (p b)) : ∀ b, b < 256 → p b := fun b hb => by
  have := List.all_eq_true.1 h b (List.mem_range.2 hb)
  exact of_decide_eq_true this
/-- Side by side: two, four, eight. -/
def t1 (x M : Nat) : Nat := (x / 2 &&& M) + (x &&& M)
def t2 (x M : Nat) : Nat := (x / 4 &&& M) + (x &&& M)
def t3 (x M : Nat) : Nat := (x / 16 + x) &&& M
def b1 (b : Nat) : Nat := (b / 2 &&& 85) + (b &&& 85)
def b2 (b : Nat) : Nat := (b / 4 &&& 51) + (b &&& 51)
def b3 (b : Nat) : Nat := (b / 16 + b) &&& 15
theorem b1_lt : ∀ b, b < 256 → b1 b < 256 := byte_all (by decide +kernel)
theorem b2_lt : ∀ b, b < 256 → b2 (b1 b) / 16 ≤ 4 ∧ b2 (b1 b) % 16 ≤ 4 := byte_all (p := fun b => b2 (b1 b) / 16 ≤ 4 ∧ b2 (b1 b) % 16 ≤ 4) (by decide +kernel)
theorem b3_pop : ∀ b, b < 256 → b3 (b2 (b1 b)) = pop8B b := byte_all (by decide +kernel)
theorem hi1 : ∀ b, b < 256 → ((b / 2 + 128) &&& 85 = b / 2 &&& 85) := byte_all (by decide +kernel)
theorem hi2 : ∀ b, b < 256 → (b / 4 + 64) &&& 51 = b / 4 &&& 51 ∧ (b / 4 + 128) &&& 51 = b / 4 &&& 51 ∧ (b / 4 + 192) &&& 51 = b / 4 &&& 51 := byte_all (p := fun b => (b / 4 + 64) &&& 51 = b / 4 &&& 51 ∧ (b / 4 + 128) &&& 51 = b / 4 &&& 51 ∧ (b / 4 + 192) &&& 51 = b / 4 &&& 51) (by decide +kernel)
theorem t1_step (b y n : Nat) (hb : b < 256) : t1 (b + 256 * y) (maskN 85 (n + 1)) = b1 b + 256 * t1 y (maskN 85 n) := by
  unfold t1 b1
  rw [maskN_succ]
  have e : (b + 256 * y) / 2 = (b / 2 + 128 * (y % 2)) + 256 * (y / 2) := by omega
  have h := hi1 b hb
  rw [e, and_split _ _ _ _ (by omega) (by decide), and_split _ _ _ _ hb (by decide)]
  have e2 : (b / 2 + 128 * (y % 2)) &&& 85 = b / 2 &&& 85 := by
    rcases (by omega : y % 2 = 0 ∨ y % 2 = 1) with h0 | h0
    · rw [h0, Nat.mul_zero, Nat.add_zero]
    · rw [h0]; exact h
  rw [e2]; omega
theorem t2_step (b y n : Nat) (hb : b < 256) : t2 (b + 256 * y) (maskN 51 (n + 1)) = b2 b + 256 * t2 y (maskN 51 n) := by
  unfold t2 b2
  rw [maskN_succ]
  have e : (b + 256 * y) / 4 = (b / 4 + 64 * (y % 4)) + 256 * (y / 4) := by omega
  have h := hi2 b hb
  rw [e, and_split _ _ _ _ (by omega) (by decide), and_split _ _ _ _ hb (by decide)]
  have e2 : (b / 4 + 64 * (y % 4)) &&& 51 = b / 4 &&& 51 := by
    rcases (by omega : y % 4 = 0 ∨ y % 4 = 1 ∨ y % 4 = 2 ∨ y % 4 = 3) with h0 | h0 | h0 | h0
    · rw [h0, Nat.mul_zero, Nat.add_zero]
    · rw [h0]; exact h.1
    · rw [h0]; exact h.2.1
    · rw [h0]; exact h.2.2
  rw [e2]; omega
theorem and_15 (x : Nat) : x &&& 15 = x % 16 := Nat.and_two_pow_sub_one_eq_mod x 4
theorem t3_step (b y n : Nat) (hb : b / 16 ≤ 4 ∧ b % 16 ≤ 4) (hy : y % 16 ≤ 4) : t3 (b + 256 * y) (maskN 15 (n + 1)) = b3 b + 256 * t3 y (maskN 15 n) := by
  unfold t3 b3
  rw [maskN_succ]
  have e : (b + 256 * y) / 16 + (b + 256 * y) = (b / 16 + b + 16 * (y % 16)) + 256 * (y / 16 + y) := by omega
  rw [e, and_split _ _ _ _ (by omega) (by decide), and_15, and_15]
  have e2 : (b / 16 + b + 16 * (y % 16)) % 16 = (b / 16 + b) % 16 := by omega
  rw [e2]
/-- The bytes of a number, put together again. -/
def byN (p : Nat → Nat) : Nat → Nat
  | 0 => 0
  | n + 1 => p 0 + 256 * byN (fun i => p (i + 1)) n
def byteOf (x i : Nat) : Nat := x / 256 ^ i % 256
theorem byteOf_lt (x i : Nat) : byteOf x i < 256 := Nat.mod_lt _ (by decide)
theorem byteOf_zero (x : Nat) : byteOf x 0 = x % 256 := by unfold byteOf; simp
theorem byteOf_succ (x i : Nat) : byteOf x (i + 1) = byteOf (x / 256) i := by
  unfold byteOf
  rw [Nat.pow_succ, Nat.mul_comm, ← Nat.div_div_eq_div_mul]
theorem byteOf_succ' (x : Nat) : (fun i => byteOf x (i + 1)) = byteOf (x / 256) := funext fun i => byteOf_succ x i
theorem of_bytes : ∀ n x, x < 256 ^ n → byN (byteOf x) n = x
  | 0, x, h => by simp at h; unfold byN; omega
  | n + 1, x, h => by
    unfold byN
    rw [byteOf_succ', of_bytes n _ (by rw [Nat.pow_succ] at h; omega), byteOf_zero]
    omega
theorem byN_lt {p : Nat → Nat} (hp : ∀ i, p i < 256) : ∀ n, byN p n < 256 ^ n
  | 0 => by simp [byN]
  | n + 1 => by
    have := byN_lt (p := fun i => p (i + 1)) (fun i => hp (i + 1)) n
    have := hp 0
    unfold byN
    rw [Nat.pow_succ]; omega
theorem t1_all (p : Nat → Nat) (hp : ∀ i, p i < 256) : ∀ n, t1 (byN p n) (maskN 85 n) = byN (fun i => b1 (p i)) n
  | 0 => by simp [byN, t1, maskN]
  | n + 1 => by
    have ih := t1_all (fun i => p (i + 1)) (fun i => hp (i + 1)) n
    unfold byN
    rw [t1_step _ _ _ (hp 0), ih]
theorem t2_all (p : Nat → Nat) (hp : ∀ i, p i < 256) : ∀ n, t2 (byN p n) (maskN 51 n) = byN (fun i => b2 (p i)) n
  | 0 => by simp [byN, t2, maskN]
  | n + 1 => by
    have ih := t2_all (fun i => p (i + 1)) (fun i => hp (i + 1)) n
    unfold byN
    rw [t2_step _ _ _ (hp 0), ih]
theorem byN_low {p : Nat → Nat} (hp : ∀ i, p i % 16 ≤ 4) : ∀ n, byN p n % 16 ≤ 4
  | 0 => by simp [byN]
  | n + 1 => by have := hp 0; unfold byN; omega
theorem t3_all (p : Nat → Nat) (hp : ∀ i, p i / 16 ≤ 4 ∧ p i % 16 ≤ 4) : ∀ n, t3 (byN p n) (maskN 15 n) = byN (fun i => b3 (p i)) n
  | 0 => by simp [byN, t3, maskN]
  | n + 1 => by
    have ih := t3_all (fun i => p (i + 1)) (fun i => hp (i + 1)) n
    unfold byN
    rw [t3_step _ _ _ (hp 0) (byN_low (fun i => (hp (i + 1)).2) n), ih]
theorem popN_bytes : ∀ n x, popN x (8 * n) = (List.range n).foldr (fun i s => pop8B (byteOf x i) + s) 0
  | 0, x => rfl
  | n + 1, x => by
    rw [show 8 * (n + 1) = 8 + 8 * n from by omega, popN_byte, popN_8, popN_bytes n, List.range_succ_eq_map, List.foldr_cons, List.foldr_map, byteOf_zero]
    simp only [byteOf_succ]
theorem pop8B_le (b : Nat) : pop8B b ≤ 8 := by unfold pop8B; omega
theorem all_eight {a0 a1 a2 a3 a4 a5 a6 a7 z y u : Nat} (q0 : a0 ≤ 8) (q1 : a1 ≤ 8) (q2 : a2 ≤ 8) (q3 : a3 ≤ 8) (q4 : a4 ≤ 8) (q5 : a5 ≤ 8) (q6 : a6 ≤ 8) (q7 : a7 ≤ 8)
    (hz : z = a0 + 256 * (a1 + 256 * (a2 + 256 * (a3 + 256 * (a4 + 256 * (a5 + 256 * (a6 + 256 * (a7 + 256 * 0)))))))) (hy : y = z + z / 256) (hu : u = y + y / 65536) : (u + u / 4294967296) % 128 = a0 + (a1 + (a2 + (a3 + (a4 + (a5 + (a6 + (a7 + 0))))))) := by
  obtain ⟨Z6, e6⟩ : ∃ Z6, Z6 = a6 + 256 * (a7 + 256 * 0) := ⟨_, rfl⟩
  obtain ⟨Z5, e5⟩ : ∃ Z5, Z5 = a5 + 256 * Z6 := ⟨_, rfl⟩
  obtain ⟨Z4, e4⟩ : ∃ Z4, Z4 = a4 + 256 * Z5 := ⟨_, rfl⟩
  obtain ⟨Z3, e3⟩ : ∃ Z3, Z3 = a3 + 256 * Z4 := ⟨_, rfl⟩
  obtain ⟨Z2, e2⟩ : ∃ Z2, Z2 = a2 + 256 * Z3 := ⟨_, rfl⟩
  obtain ⟨Z1, e1⟩ : ∃ Z1, Z1 = a1 + 256 * Z2 := ⟨_, rfl⟩
  rw [← e6, ← e5, ← e4, ← e3, ← e2, ← e1] at hz
  have h1 : z / 256 = Z1 := by clear hy hu e1 e2 e3 e4 e5 e6; omega
  rw [h1] at hy
  have h2 : y / 65536 = Z2 + Z3 := by clear hu e3 e4 e5 e6 h1; omega
  rw [h2] at hu
  have y2 : y = (a0 + 256 * a1 + 65536 * a2 + 16777216 * a3 + 4294967296 * Z4) + (a1 + 256 * a2 + 65536 * a3 + 16777216 * a4 + 4294967296 * Z5) := by clear hu h1 h2; omega
  have z2 : Z2 = a2 + 256 * a3 + 65536 * a4 + 16777216 * a5 + 4294967296 * Z6 := by clear hu h1 h2 hy hz e6; omega
  have z3 : Z3 = a3 + 256 * a4 + 65536 * a5 + 16777216 * a6 + 4294967296 * a7 := by clear hu h1 h2 hy hz; omega
  rw [y2, z2, z3] at hu
  have h3 : u / 4294967296 = Z4 + Z5 + Z6 + a7 := by clear h1 h2 hy hz y2 z2 z3 e1 e2 e3 e4 e5 e6; omega
  rw [h3, hu, e4, e5, e6]
  clear h1 h2 hy hz y2 z2 z3 e1 e2 e3 e4 e5 e6 h3 hu
  omega
/-- The whole: side by side, then all eight together. -/
theorem pop_sum (x : Nat) (hx : x < 18446744073709551616) : ∃ z, z = t3 (t2 (t1 x 6148914691236517205) 3689348814741910323) 1085102592571150095 ∧ z < 2 ^ 60 ∧
    t1 x 6148914691236517205 < 18446744073709551616 ∧ t2 (t1 x 6148914691236517205) 3689348814741910323 < 4919131752989213765 ∧
    (z + z / 256 + (z + z / 256) / 65536 + (z + z / 256 + (z + z / 256) / 65536) / 4294967296) % 128 = popN x 64 ∧ popN x 64 ≤ 64 := by
  have m1 : (6148914691236517205 : Nat) = maskN 85 8 := by decide
  have m2 : (3689348814741910323 : Nat) = maskN 51 8 := by decide
  have m3 : (1085102592571150095 : Nat) = maskN 15 8 := by decide
  have e := of_bytes 8 x (by rw [show (256 : Nat) ^ 8 = 18446744073709551616 from by decide]; exact hx)
  have e1 : t1 x (maskN 85 8) = byN (fun i => b1 (byteOf x i)) 8 := by
    conv => lhs; rw [← e]
    exact t1_all _ (byteOf_lt x) 8
  have e2 : t2 (t1 x (maskN 85 8)) (maskN 51 8) = byN (fun i => b2 (b1 (byteOf x i))) 8 := by
    rw [e1]; exact t2_all _ (fun i => b1_lt _ (byteOf_lt x i)) 8
  have e3 : t3 (t2 (t1 x (maskN 85 8)) (maskN 51 8)) (maskN 15 8) = byN (fun i => pop8B (byteOf x i)) 8 := by
    rw [e2, t3_all _ (fun i => b2_lt _ (byteOf_lt x i)) 8]
    congr 1
    funext i
    exact b3_pop _ (byteOf_lt x i)
  have l1 := byN_lt (p := fun i => b1 (byteOf x i)) (fun i => b1_lt _ (byteOf_lt x i)) 8
  have l2 : byN (fun i => b2 (b1 (byteOf x i))) 8 < 4919131752989213765 := by
    have h : ∀ i, b2 (b1 (byteOf x i)) ≤ 68 := fun i => by have := b2_lt _ (byteOf_lt x i); omega
    simp only [byN]
    have h0 := h 0; have h1 := h 1; have h2 := h 2; have h3 := h 3; have h4 := h 4; have h5 := h 5; have h6 := h 6; have h7 := h 7
    simp only [Nat.zero_add, Nat.reduceAdd] at *
    omega
  have hp := popN_bytes 8 x
  rw [m1, m2, m3, e3, e2, e1]
  refine ⟨_, rfl, ?_⟩
  have r8 : List.range 8 = [0, 1, 2, 3, 4, 5, 6, 7] := by decide
  rw [r8] at hp
  simp only [List.foldr_cons, List.foldr_nil, Nat.reduceMul] at hp
  rw [hp]
  have q0 := pop8B_le (byteOf x 0); have q1 := pop8B_le (byteOf x 1); have q2 := pop8B_le (byteOf x 2); have q3 := pop8B_le (byteOf x 3)
  have q4 := pop8B_le (byteOf x 4); have q5 := pop8B_le (byteOf x 5); have q6 := pop8B_le (byteOf x 6); have q7 := pop8B_le (byteOf x 7)
  rw [show (256 : Nat) ^ 8 = 18446744073709551616 from by decide] at l1
  refine ⟨?_, l1, l2, ?_, ?_⟩
  · clear l1 l2 e1 e2 e3 e hp
    simp only [byN, Nat.zero_add, Nat.reduceAdd]
    omega
  · clear l1 l2 e1 e2 e3 e hp
    simp only [byN, Nat.zero_add, Nat.reduceAdd]
    exact all_eight q0 q1 q2 q3 q4 q5 q6 q7 rfl rfl rfl
  · omega
end Go.Inc
