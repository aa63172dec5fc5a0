/- THE PLAIN ARITHMETIC OF THE CHECK SUM (CRC-32C): steps, bytes, linearity, nothing is lost. No program is named here. -/

namespace Go.Inc.Crc

/-- The bits that are turned. -/
def Po : Nat := 2197175160

/-- One step of a register that is 0 at its foot. -/
def S (r : Nat) : Nat := if r % 2 = 1 then (r / 2) ^^^ Po else r / 2

def S8 (r : Nat) : Nat := S (S (S (S (S (S (S (S r)))))))

/-- A byte is told. -/
def byte (r c : Nat) : Nat := S8 (r ^^^ c)

def run (r : Nat) (bs : List Nat) : Nat := bs.foldl byte r

def sum (bs : List Nat) : Nat := run 4294967295 bs ^^^ 4294967295

theorem S_eq (r : Nat) : S r = (r / 2) ^^^ (if r % 2 = 1 then Po else 0) := by
  unfold S; split <;> simp

theorem xor_mod_two (a b : Nat) : (a ^^^ b) % 2 = (a % 2 + b % 2) % 2 := by
  have h : (a ^^^ b).testBit 0 = (a.testBit 0 ^^ b.testBit 0) := Nat.testBit_xor a b 0
  simp only [Nat.testBit_zero] at h
  rcases Nat.mod_two_eq_zero_or_one a with ha | ha <;> rcases Nat.mod_two_eq_zero_or_one b with hb | hb <;>
    rcases Nat.mod_two_eq_zero_or_one (a ^^^ b) with hc | hc <;> simp [ha, hb, hc] at h ⊢

theorem xor_half (a b : Nat) : (a ^^^ b) / 2 = (a / 2) ^^^ (b / 2) := by
  apply Nat.eq_of_testBit_eq
  intro i
  simp [Nat.testBit_xor, ← Nat.testBit_succ]

theorem S_xor (a b : Nat) : S (a ^^^ b) = S a ^^^ S b := by
  rw [S_eq, S_eq, S_eq, xor_half, xor_mod_two]
  rcases Nat.mod_two_eq_zero_or_one a with ha | ha <;> rcases Nat.mod_two_eq_zero_or_one b with hb | hb <;> simp [ha, hb]
  · rw [Nat.xor_assoc]
  · rw [Nat.xor_assoc, Nat.xor_assoc, Nat.xor_comm Po]
  · rw [Nat.xor_assoc, Nat.xor_comm Po (b / 2 ^^^ Po), Nat.xor_assoc, Nat.xor_self, Nat.xor_zero]

theorem S8_xor (a b : Nat) : S8 (a ^^^ b) = S8 a ^^^ S8 b := by
  unfold S8; simp only [S_xor]

theorem Po_lt : Po < 2 ^ 32 := by decide

theorem S_lt (r : Nat) (h : r < 4294967296) : S r < 4294967296 := by
  unfold S; split
  · exact Nat.xor_lt_two_pow (n := 32) (by omega) Po_lt
  · omega

theorem S8_lt (r : Nat) (h : r < 4294967296) : S8 r < 4294967296 := by
  unfold S8
  exact S_lt _ (S_lt _ (S_lt _ (S_lt _ (S_lt _ (S_lt _ (S_lt _ (S_lt _ h)))))))

theorem xor_lt {a b : Nat} (ha : a < 4294967296) (hb : b < 4294967296) : a ^^^ b < 4294967296 :=
  Nat.xor_lt_two_pow (n := 32) ha hb

theorem byte_lt (r c : Nat) (h : r < 4294967296) (hc : c < 256) : byte r c < 4294967296 := S8_lt _ (xor_lt h (by omega))

theorem run_lt (bs : List Nat) : ∀ r, r < 4294967296 → (∀ x ∈ bs, x < 256) → run r bs < 4294967296 := by
  induction bs with
  | nil => intro r h _; exact h
  | cons b bs ih =>
    intro r h hb
    exact ih _ (byte_lt _ _ h (hb b (by simp))) (fun x hx => hb x (by simp [hx]))

theorem sum_lt (bs : List Nat) (hb : ∀ x ∈ bs, x < 256) : sum bs < 4294967296 := xor_lt (run_lt bs _ (by decide) hb) (by decide)

theorem run_append (r : Nat) (a b : List Nat) : run r (a ++ b) = run (run r a) b := by simp [run]

theorem run_snoc (r : Nat) (a : List Nat) (c : Nat) : run r (a ++ [c]) = byte (run r a) c := by simp [run]

theorem S_double (m : Nat) : S (2 * m) = m := by unfold S; rw [if_neg (by omega)]; omega

theorem S8_256 (m : Nat) : S8 (256 * m) = m := by
  unfold S8
  rw [show 256 * m = 2 * (2 * (2 * (2 * (2 * (2 * (2 * (2 * m))))))) from by omega]
  simp only [S_double]

theorem split_byte (r : Nat) : r = (256 * (r / 256)) ^^^ (r % 256) := by
  have h : 256 * (r / 256) + r % 256 = (256 * (r / 256)) ^^^ (r % 256) := by
    have := Nat.two_pow_add_eq_or_of_lt (i := 8) (b := r % 256) (by omega) (r / 256)
    rw [show (2 : Nat) ^ 8 = 256 from rfl] at this
    rw [this]
    apply Nat.eq_of_testBit_eq
    intro i
    rw [Nat.testBit_or, Nat.testBit_xor]
    by_cases hi : i < 8
    · have : (256 * (r / 256)).testBit i = false := by
        rw [show 256 * (r / 256) = (r / 256) * 2 ^ 8 from by omega, Nat.testBit_mul_two_pow]; simp; omega
      rw [this]; simp
    · have : (r % 256).testBit i = false := by
        apply Nat.testBit_lt_two_pow
        exact Nat.lt_of_lt_of_le (show r % 256 < 2 ^ 8 by omega) (Nat.pow_le_pow_right (by decide) (by omega))
      rw [this]; simp
  omega

/-- A whole byte's steps at once. -/
theorem S8_split (r : Nat) : S8 r = (r / 256) ^^^ S8 (r % 256) := by
  conv => lhs; rw [split_byte r]
  rw [S8_xor, S8_256]

theorem byte_table (r c : Nat) (hc : c < 256) : byte r c = (r / 256) ^^^ S8 ((r % 256) ^^^ c) := by
  unfold byte
  rw [S8_split]
  have h1 : (r ^^^ c) / 256 = r / 256 := by
    apply Nat.eq_of_testBit_eq
    intro i
    rw [show (256 : Nat) = 2 ^ 8 from rfl, Nat.testBit_div_two_pow, Nat.testBit_div_two_pow, Nat.testBit_xor]
    have : c.testBit (i + 8) = false := Nat.testBit_lt_two_pow (Nat.lt_of_lt_of_le (show c < 2 ^ 8 by omega) (Nat.pow_le_pow_right (by decide) (by omega)))
    simp [this]
  have h2 : (r ^^^ c) % 256 = (r % 256) ^^^ c := by
    apply Nat.eq_of_testBit_eq
    intro i
    rw [show (256 : Nat) = 2 ^ 8 from rfl, Nat.testBit_mod_two_pow, Nat.testBit_xor, Nat.testBit_xor, Nat.testBit_mod_two_pow]
    by_cases hi : i < 8
    · simp [hi]
    · have : c.testBit i = false := Nat.testBit_lt_two_pow (Nat.lt_of_lt_of_le (show c < 2 ^ 8 by omega) (Nat.pow_le_pow_right (by decide) (by omega)))
      simp [hi, this]
  rw [h1, h2]

/-- The table's doubling. -/
theorem S8_bit (j k : Nat) (hk : k < 2 ^ j) : S8 (2 ^ j + k) = S8 (2 ^ j) ^^^ S8 k := by
  rw [← S8_xor]
  congr 1
  have := Nat.two_pow_add_eq_or_of_lt (i := j) (b := k) hk 1
  rw [Nat.mul_one] at this
  rw [this]
  apply Nat.eq_of_testBit_eq
  intro i
  rw [Nat.testBit_or, Nat.testBit_xor, Nat.testBit_two_pow]
  by_cases hi : j = i
  · subst hi
    simp [Nat.testBit_lt_two_pow hk]
  · simp [hi]

/-! Nothing is lost in a step. -/
theorem xor_cancel {a b c : Nat} (h : a ^^^ c = b ^^^ c) : a = b := by
  have : (a ^^^ c) ^^^ c = (b ^^^ c) ^^^ c := by rw [h]
  simpa [Nat.xor_assoc] using this

theorem S_top (r : Nat) (h : r < 4294967296) : (S r).testBit 31 = decide (r % 2 = 1) := by
  rw [S_eq, Nat.testBit_xor]
  have h1 : (r / 2).testBit 31 = false := Nat.testBit_lt_two_pow (by omega)
  rw [h1]
  by_cases hr : r % 2 = 1 <;> simp [hr]
  decide

theorem S_inj {a b : Nat} (ha : a < 4294967296) (hb : b < 4294967296) (h : S a = S b) : a = b := by
  have h2 : decide (a % 2 = 1) = decide (b % 2 = 1) := by rw [← S_top a ha, ← S_top b hb, h]
  have h3 : a / 2 = b / 2 := by
    rw [S_eq, S_eq] at h
    by_cases hr : a % 2 = 1
    · have hr' : b % 2 = 1 := by simpa [hr] using h2
      simp only [hr, hr', if_true] at h
      exact xor_cancel h
    · have hr' : ¬ b % 2 = 1 := by simpa [hr] using h2
      simpa [hr, hr'] using h
  have h4 : a % 2 = 1 ↔ b % 2 = 1 := by simpa using h2
  omega

theorem S8_inj {a b : Nat} (ha : a < 4294967296) (hb : b < 4294967296) (h : S8 a = S8 b) : a = b := by
  unfold S8 at h
  have la := fun x (h : x < 4294967296) => S_lt x h
  refine S_inj ha hb (S_inj (la _ ha) (la _ hb) (S_inj (la _ (la _ ha)) (la _ (la _ hb)) (S_inj (la _ (la _ (la _ ha))) (la _ (la _ (la _ hb)))
    (S_inj (la _ (la _ (la _ (la _ ha)))) (la _ (la _ (la _ (la _ hb)))) (S_inj (la _ (la _ (la _ (la _ (la _ ha))))) (la _ (la _ (la _ (la _ (la _ hb)))))
      (S_inj (la _ (la _ (la _ (la _ (la _ (la _ ha)))))) (la _ (la _ (la _ (la _ (la _ (la _ hb)))))) (S_inj (la _ (la _ (la _ (la _ (la _ (la _ (la _ ha))))))) (la _ (la _ (la _ (la _ (la _ (la _ (la _ hb))))))) h)))))))

theorem byte_inj {a b c : Nat} (ha : a < 4294967296) (hb : b < 4294967296) (hc : c < 256) (h : byte a c = byte b c) : a = b :=
  xor_cancel (S8_inj (xor_lt ha (by omega)) (xor_lt hb (by omega)) h)

theorem byte_inj_right {a c d : Nat} (ha : a < 4294967296) (hc : c < 256) (hd : d < 256) (h : byte a c = byte a d) : c = d := by
  have := S8_inj (xor_lt ha (show c < 4294967296 by omega)) (xor_lt ha (show d < 4294967296 by omega)) h
  rw [Nat.xor_comm a, Nat.xor_comm a] at this
  exact xor_cancel this

theorem run_inj (bs : List Nat) : ∀ {a b : Nat}, a < 4294967296 → b < 4294967296 → (∀ x ∈ bs, x < 256) → run a bs = run b bs → a = b := by
  induction bs with
  | nil => intro a b _ _ _ h; exact h
  | cons c bs ih =>
    intro a b ha hb hx h
    have hc := hx c (by simp)
    exact byte_inj ha hb hc (ih (byte_lt _ _ ha hc) (byte_lt _ _ hb hc) (fun x hx' => hx x (by simp [hx'])) h)

/-- One byte that is another: another sum. -/
theorem sum_turned {pre post : List Nat} {c d : Nat} (hp : ∀ x ∈ pre, x < 256) (hq : ∀ x ∈ post, x < 256) (hc : c < 256) (hd : d < 256)
    (h : sum (pre ++ c :: post) = sum (pre ++ d :: post)) : c = d := by
  have h1 := xor_cancel h
  rw [run_append, run_append] at h1
  have hr := run_lt pre 4294967295 (by decide) hp
  exact byte_inj_right hr hc hd (run_inj post (byte_lt _ _ hr hc) (byte_lt _ _ hr hd) hq h1)

end Go.Inc.Crc

