/- NUMBERS AS BYTES, ON Nat: seven bits in each, the lowest first; reading them back. No Go. -/

namespace Go.Inc.Var

/-- A number's bytes. -/
def put (n : Nat) : List Nat := if h : n < 128 then [n] else (n % 128 + 128) :: put (n / 128)
  termination_by n
  decreasing_by omega
theorem put_low {n : Nat} (h : n < 128) : put n = [n] := by rw [put]; simp [h]
theorem put_more {n : Nat} (h : 128 ≤ n) : put n = (n % 128 + 128) :: put (n / 128) := by rw [put]; simp [show ¬ n < 128 by omega]
theorem put_bytes (n : Nat) : ∀ x ∈ put n, x < 256 := by
  induction n using Nat.strongRecOn with
  | _ n ih =>
    by_cases h : n < 128
    · rw [put_low h]; simp; omega
    · rw [put_more (by omega)]
      intro x hx
      rcases List.mem_cons.1 hx with rfl | hx
      · omega
      · exact ih _ (by omega) x hx
theorem put_len_pos (n : Nat) : 1 ≤ (put n).length := by
  by_cases h : n < 128
  · rw [put_low h]; simp
  · rw [put_more (by omega)]; simp
theorem put_len (k : Nat) : ∀ n, n < 128 ^ k → 1 ≤ k → (put n).length ≤ k := by
  induction k with
  | zero => intro n _ h; omega
  | succ k ih =>
    intro n hn _
    by_cases h : n < 128
    · rw [put_low h]; simp
    · rw [put_more (by omega), List.length_cons]
      have hk : 1 ≤ k := by
        rcases Nat.eq_zero_or_pos k with rfl | h'
        · simp at hn; omega
        · omega
      have := ih (n / 128) (by rw [Nat.pow_succ] at hn; omega) hk
      omega
theorem put_ten {n : Nat} (h : n < 18446744073709551616) : (put n).length ≤ 10 := put_len 10 n (by omega) (by omega)

/-- How many bytes a number has: one for each seven bits of its length in bits. -/
theorem put_len_eq (k n : Nat) (h : n < 128 ^ (k + 1)) (h' : 128 ^ k ≤ n ∨ k = 0) : (put n).length = k + 1 := by
  induction k generalizing n with
  | zero => rw [put_low (by omega)]; rfl
  | succ k ih =>
    have hn : 128 ^ (k + 1) ≤ n := by omega
    have h1 : 128 * 1 ≤ 128 * 128 ^ k := Nat.mul_le_mul_left _ (Nat.one_le_pow _ _ (by omega))
    rw [Nat.pow_succ, Nat.mul_comm] at hn
    rw [put_more (by omega), List.length_cons, ih (n / 128)]
    · rw [Nat.pow_succ] at h; omega
    · left; omega

/-- Reading up to a greatest number: i bytes were read, and tell n. Answered: the number, the place behind it, the error. -/
def get (g : Nat) : Nat → Nat → List Nat → Nat × Nat × Nat
  | i, _, [] => (0, i, 4)
  | i, n, c :: bs =>
    if i = 10 ∨ (0 < i ∧ c = 0) ∨ (g - n) / 128 ^ i < c % 128 then (0, i, 3)
    else if c < 128 then (n + c % 128 * 128 ^ i, i + 1, 0)
    else get g (i + 1) (n + c % 128 * 128 ^ i) bs
theorem get_nil (G k n : Nat) : get G k n [] = (0, k, 4) := rfl
theorem get_bad {G k n c : Nat} {bs : List Nat} (h : k = 10 ∨ (0 < k ∧ c = 0) ∨ (G - n) / 128 ^ k < c % 128) : get G k n (c :: bs) = (0, k, 3) := by rw [get, if_pos h]
theorem get_last {G k n c : Nat} {bs : List Nat} (h : ¬ (k = 10 ∨ (0 < k ∧ c = 0) ∨ (G - n) / 128 ^ k < c % 128)) (hc : c < 128) : get G k n (c :: bs) = (n + c % 128 * 128 ^ k, k + 1, 0) := by rw [get, if_neg h, if_pos hc]
theorem get_next {G k n c : Nat} {bs : List Nat} (h : ¬ (k = 10 ∨ (0 < k ∧ c = 0) ∨ (G - n) / 128 ^ k < c % 128)) (hc : ¬ c < 128) : get G k n (c :: bs) = get G (k + 1) (n + c % 128 * 128 ^ k) bs := by rw [get, if_neg h, if_neg hc]
theorem next_le {G k n c : Nat} (hn : n ≤ G) (h : ¬ (G - n) / 128 ^ k < c % 128) : n + c % 128 * 128 ^ k ≤ G := by
  have h1 : c % 128 ≤ (G - n) / 128 ^ k := by omega
  have h2 := (Nat.le_div_iff_mul_le (Nat.pow_pos (n := k) (by omega : 0 < 128))).1 h1
  omega
theorem next_lt {k n c : Nat} (hn : n < 128 ^ k) : n + c % 128 * 128 ^ k < 128 ^ (k + 1) := by
  have h : c % 128 ≤ 127 := by omega
  have := Nat.mul_le_mul_right (128 ^ k) h
  rw [Nat.pow_succ]
  omega
theorem pow_128 (k : Nat) : (2 : Nat) ^ (7 * k) = 128 ^ k := by rw [Nat.pow_mul]
theorem or_next {k n y : Nat} (hn : n < 128 ^ k) : n ||| (y * 128 ^ k) = n + y * 128 ^ k := by
  rw [← pow_128] at hn ⊢
  have := Nat.two_pow_add_eq_or_of_lt hn y
  rw [Nat.mul_comm y, Nat.or_comm, ← this, Nat.add_comm]
def val (g : Nat) (bs : List Nat) : Nat := (get g 0 0 bs).1
def pos (g : Nat) (bs : List Nat) : Nat := (get g 0 0 bs).2.1
def err (g : Nat) (bs : List Nat) : Nat := (get g 0 0 bs).2.2

theorem get_facts (g : Nat) : ∀ bs i n, n ≤ g → (get g i n bs).1 ≤ g ∧ i ≤ (get g i n bs).2.1 ∧ (get g i n bs).2.1 ≤ i + bs.length ∧
    ((get g i n bs).2.2 = 0 ∨ (get g i n bs).2.2 = 3 ∨ (get g i n bs).2.2 = 4) ∧ ((get g i n bs).2.2 ≠ 0 → (get g i n bs).1 = 0) ∧ ((get g i n bs).2.2 = 0 → i < (get g i n bs).2.1) := by
  intro bs
  induction bs with
  | nil => intro i n h; simp [get]
  | cons c bs ih =>
    intro i n h
    unfold get
    split
    · simp
    · rename_i hc
      have hle : n + c % 128 * 128 ^ i ≤ g := by
        have h1 : c % 128 ≤ (g - n) / 128 ^ i := by omega
        have h2 := (Nat.le_div_iff_mul_le (Nat.pow_pos (n := i) (by omega : 0 < 128))).1 h1
        omega
      split
      · simp; omega
      · have := ih (i + 1) _ hle
        refine ⟨this.1, by omega, by rw [List.length_cons]; omega, this.2.2.2.1, this.2.2.2.2.1, fun h => by have := this.2.2.2.2.2 h; omega⟩
theorem val_le (g : Nat) (bs : List Nat) : val g bs ≤ g := (get_facts g bs 0 0 (Nat.zero_le _)).1
theorem pos_le (g : Nat) (bs : List Nat) : pos g bs ≤ bs.length := by have := (get_facts g bs 0 0 (Nat.zero_le _)).2.2.1; unfold pos; omega
theorem err_in (g : Nat) (bs : List Nat) : err g bs = 0 ∨ err g bs = 3 ∨ err g bs = 4 := (get_facts g bs 0 0 (Nat.zero_le _)).2.2.2.1
theorem val_bad {g : Nat} {bs : List Nat} (h : err g bs ≠ 0) : val g bs = 0 := (get_facts g bs 0 0 (Nat.zero_le _)).2.2.2.2.1 h
theorem pos_good {g : Nat} {bs : List Nat} (h : err g bs = 0) : 0 < pos g bs := (get_facts g bs 0 0 (Nat.zero_le _)).2.2.2.2.2 h

/-- What is put is got as it was. -/
theorem get_put (g : Nat) : ∀ m i n rest, n + m * 128 ^ i ≤ g → i + (put m).length ≤ 10 → (0 < i → 0 < m) → get g i n (put m ++ rest) = (n + m * 128 ^ i, i + (put m).length, 0) := by
  intro m
  induction m using Nat.strongRecOn with
  | _ m ih =>
    intro i n rest hg hl hp
    have hpow : 0 < 128 ^ i := Nat.pow_pos (by omega)
    have key : ∀ x, x ≤ m → ¬ (g - n) / 128 ^ i < x := by
      intro x hx
      have : x ≤ (g - n) / 128 ^ i := (Nat.le_div_iff_mul_le hpow).2 (by
        have := Nat.mul_le_mul_right (128 ^ i) hx
        omega)
      omega
    by_cases h : m < 128
    · rw [put_low h] at hl ⊢
      simp only [List.length_cons, List.length_nil] at hl
      have hm : m % 128 = m := Nat.mod_eq_of_lt h
      simp only [List.cons_append, List.nil_append, get]
      rw [if_neg, if_pos h, hm]
      · rfl
      · rw [hm]
        have := key m (Nat.le_refl _)
        omega
    · rw [put_more (by omega)] at hl ⊢
      rw [List.length_cons] at hl
      have h1 := put_len_pos (m / 128)
      have hm : (m % 128 + 128) % 128 = m % 128 := by omega
      simp only [List.cons_append, get]
      have hsum : m % 128 * 128 ^ i + m / 128 * 128 ^ (i + 1) = m * 128 ^ i := by
        rw [Nat.pow_succ, Nat.mul_comm (128 ^ i) 128, ← Nat.mul_assoc, ← Nat.add_mul]
        congr 1
        omega
      rw [if_neg, if_neg (by omega), hm, ih (m / 128) (by omega) (i + 1) _ rest (by omega) (by omega) (by omega), List.length_cons]
      · rw [show n + m % 128 * 128 ^ i + m / 128 * 128 ^ (i + 1) = n + m * 128 ^ i from by omega, show i + 1 + (put (m / 128)).length = i + ((put (m / 128)).length + 1) from by omega]
      · rw [hm]
        have := key (m % 128) (Nat.mod_le _ _)
        omega
theorem get_put0 {g m : Nat} (hg : m ≤ g) (hb : m < 18446744073709551616) (rest : List Nat) : get g 0 0 (put m ++ rest) = (m, (put m).length, 0) := by
  have := get_put g m 0 0 rest (by simpa using hg) (by have := put_ten hb; omega) (by omega)
  simpa using this
theorem val_put {g m : Nat} (hg : m ≤ g) (hb : m < 18446744073709551616) (rest : List Nat) : val g (put m ++ rest) = m := by unfold val; rw [get_put0 hg hb]
theorem pos_put {g m : Nat} (hg : m ≤ g) (hb : m < 18446744073709551616) (rest : List Nat) : pos g (put m ++ rest) = (put m).length := by unfold pos; rw [get_put0 hg hb]
theorem err_put {g m : Nat} (hg : m ≤ g) (hb : m < 18446744073709551616) (rest : List Nat) : err g (put m ++ rest) = 0 := by unfold err; rw [get_put0 hg hb]

/-- A signed number, folded. -/
def fold (n : Int) : Nat := if 0 ≤ n then (2 * n).toNat else (-2 * n - 1).toNat
def unfold' (u : Nat) : Int := if u % 2 = 0 then ((u / 2 : Nat) : Int) else -((u / 2 : Nat) : Int) - 1
theorem unfold_fold (n : Int) : unfold' (fold n) = n := by
  unfold fold unfold'
  split <;> split <;> omega
theorem fold_lt {n : Int} (h : -9223372036854775808 ≤ n) (h' : n ≤ 9223372036854775807) : fold n < 18446744073709551616 := by
  unfold fold; split <;> omega

/-- Bytes of a number of fixed size, the lowest first. -/
def lowest : Nat → Nat → List Nat
  | 0, _ => []
  | k + 1, n => n % 256 :: lowest k (n / 256)
theorem lowest_len (k n : Nat) : (lowest k n).length = k := by
  induction k generalizing n with
  | zero => rfl
  | succ k ih => simp [lowest, ih]
/-- The number of such bytes. -/
def num : List Nat → Nat
  | [] => 0
  | c :: bs => c + 256 * num bs
theorem num_lt (bs : List Nat) (h : ∀ x ∈ bs, x < 256) : num bs < 256 ^ bs.length := by
  induction bs with
  | nil => simp [num]
  | cons c bs ih =>
    have h1 := ih (fun x hx => h x (List.mem_cons_of_mem _ hx))
    have h2 := h c (by simp)
    rw [num, List.length_cons, Nat.pow_succ]
    omega
theorem num_snoc (bs : List Nat) (c : Nat) : num (bs ++ [c]) = num bs + c * 256 ^ bs.length := by
  induction bs with
  | nil => simp [num]
  | cons b bs ih =>
    rw [List.cons_append, num, ih, num, List.length_cons, Nat.pow_succ, Nat.mul_add, ← Nat.add_assoc]
    congr 1
    rw [Nat.mul_comm (256 ^ bs.length) 256, ← Nat.mul_assoc, Nat.mul_comm 256 c, Nat.mul_assoc]
end Go.Inc.Var
