/- CONTRACTS: is there such a one, does it fit, where does it begin; a number read. -/
import Derived.Test.YtcgapplblhbdlaaPkA
namespace Go.Proofs.Ytcgapplblhbdlaa
open Go.RowKit Go.Inc

def hasZ (n : Nat) (i : Int) : Bool := decide (0 ≤ i ∧ i < (n : Int))
theorem pkHas_any (x : World) (b : Nat) (n : Nat) (i : Int) (h1 : x.cell? ⟨b, 1, none⟩ = some (.int .i64 (n : Int))) :
    Calls Try.prog 30 #[.pointer (some ⟨b, 0, none⟩), .int .i64 i] x fun e w' => e = .returned (.bool (hasZ n i)) ∧ x = w' := by
  by_cases h0 : 0 ≤ i
  · have HB : Hid (hasZ n i = decide (i < (n : Int))) := hid (by unfold hasZ; simp [h0])
    go_enter Try.func30, Try.ntmps30
    go_wp2_with fail
    go_ret
    exact ⟨ret_bool (by rw [HB.out]), rfl⟩
  · have HB : Hid (hasZ n i = false) := hid (by unfold hasZ; simp [h0])
    have h0' : (0 ≤ i) = False := eq_false h0
    clear h0
    go_enter Try.func30, Try.ntmps30
    go_wp2_with fail
    go_ret
    exact ⟨ret_bool (by rw [HB.out]), rfl⟩
theorem pkFits_any (x : World) (b w : Nat) (z : Int) (hc : x.cell? ⟨b, 0, none⟩ = some (.int .i64 (w : Int))) (h1 : 1 ≤ w) (h2 : w ≤ 31) :
    Calls Try.prog 31 #[.pointer (some ⟨b, 0, none⟩), .int .i64 z] x fun e w' => e = .returned (.bool (fitsZ w z)) ∧ x = w' := by
  have HW := hid (pkWidth_any z x)
  have hk := widthZ_fits h1 h2 z
  have hle := widthZ_le z
  obtain ⟨k, hkk⟩ : ∃ k, k = widthZ z := ⟨_, rfl⟩
  rw [← hkk] at HW hk hle
  have hk31 : (k : Int) ≤ 31 := by omega
  clear hkk hle
  by_cases h0 : (0 : Int) < k
  · have HB : Hid (fitsZ w z = decide ((k : Int) ≤ (w : Int))) := hid (by
      rw [Bool.eq_iff_iff, ← hk, decide_eq_true_iff]
      omega)
    clear hk h1 h2
    go_enter Try.func31, Try.ntmps31
    go_wp2_with fail
    refine HW.out.mono ?_
    rintro e w1 ⟨rfl, rfl⟩
    go_wp2_with fail
    go_ret
    exact ⟨ret_bool (by rw [HB.out]; simp), rfl⟩
  · have HB : Hid (fitsZ w z = false) := hid (by
      rw [← Bool.not_eq_true, ← hk]
      omega)
    have hk0 : k = 0 := by omega
    subst hk0
    clear hk h1 h2 h0
    go_enter Try.func31, Try.ntmps31
    go_wp2_with fail
    refine HW.out.mono ?_
    rintro e w1 ⟨rfl, rfl⟩
    go_wp2_with fail
    go_ret
    exact ⟨ret_bool (by rw [HB.out]), rfl⟩
theorem pkMask_any (x : World) (b w : Nat) (hc : x.cell? ⟨b, 0, none⟩ = some (.int .i64 (w : Int))) (h2 : w ≤ 31) :
    Calls Try.prog 44 #[.pointer (some ⟨b, 0, none⟩)] x fun e w' => e = .returned (.int .u64 ((2 ^ w - 1 : Nat) : Int)) ∧ x = w' := by
  have hw : (w : Int) < 64 := by omega
  obtain ⟨M, hM⟩ : ∃ M, M = 2 ^ w := ⟨_, rfl⟩
  have hM1 : (1 : Int) ≤ M ∧ (M : Int) ≤ 2147483648 := by have := pow31 h2; have := Nat.two_pow_pos w; omega
  have hp : (2 : Int) ^ w = (M : Int) := by rw [hM]; simp
  obtain ⟨hm1, hm2⟩ := hM1
  have HR : Hid (((2 ^ w - 1 : Nat) : Int) = (M : Int) - 1) := hid (by rw [← hM]; omega)
  clear hM h2
  go_enter Try.func44, Try.ntmps44
  go_wp2_with fail
  go_ret
  exact ⟨by rw [HR.out]; rfl, rfl⟩
theorem pkPlace_any (x : World) (b w i A q o : Nat) (hc : x.cell? ⟨b, 0, none⟩ = some (.int .i64 (w : Int))) (hA : (i : Int) * (w : Int) = (A : Int)) (hb : (A : Int) ≤ 2031616) (hq : (A : Int) / 64 = (q : Int)) (ho : (A : Int) % 64 = (o : Int)) :
    Calls Try.prog 43 #[.pointer (some ⟨b, 0, none⟩), .int .i64 (i : Int)] x fun e w' => e = .returned (.tuple #[.int .i64 (q : Int), .int .i64 (o : Int)]) ∧ ∃ m, w' = x.drewN m := by
  have HO := hid ho
  clear ho
  go_enter Try.func43, Try.ntmps43
  go_wp2_with fail
  go_quiet (fail)
  go_wp2_with fail
  go_ret2
  exact ⟨by rw [← HO.out]; rfl, _, rfl⟩
theorem len_at (x : World) (b n : Nat) (h1 : x.cell? ⟨b, 1, none⟩ = some (.int .i64 (n : Int))) :
    Calls Try.prog 22 #[.pointer (some ⟨b, 0, none⟩)] x fun e w' => e = .returned (.int .i64 (n : Int)) ∧ x = w' := by
  go_enter Try.func22, Try.ntmps22
  go_wp2_with fail
  go_ret
  exact ⟨rfl, rfl⟩
theorem width_at (x : World) (b n : Nat) (h1 : x.cell? ⟨b, 0, none⟩ = some (.int .i64 (n : Int))) :
    Calls Try.prog 23 #[.pointer (some ⟨b, 0, none⟩)] x fun e w' => e = .returned (.int .i64 (n : Int)) ∧ x = w' := by
  go_enter Try.func23, Try.ntmps23
  go_wp2_with fail
  go_ret
  exact ⟨rfl, rfl⟩
set_option maxRecDepth 20000 in
theorem pkGet_at (x : World) (b i B : Nat) (v : Value) (w : Nat) (l W : List Nat) (h : PkAt x b v w l W B) (hi : i < l.length) :
    Calls Try.prog 36 #[.pointer (some ⟨b, 0, none⟩), .int .i64 (i : Int)] x fun e w' => e = .returned (.int .i64 ((l.getD i 0 : Nat) : Int)) ∧ ∃ m, w' = x.drewN m := by
  obtain ⟨A, hA⟩ : ∃ A, A = i * w := ⟨_, rfl⟩
  obtain ⟨q, hq⟩ : ∃ q, q = i * w / 64 := ⟨_, rfl⟩
  obtain ⟨o, ho⟩ : ∃ o, o = i * w % 64 := ⟨_, rfl⟩
  have hAb : A ≤ 2031616 := by rw [hA]; exact mul_31 h.w2 (by have := h.n; omega)
  have hql : q < W.length := by rw [h.wd.len]; exact place_lt hi h.w1 hq
  obtain ⟨g, c, rfl, hc1, hc2, -, -⟩ := h.raw.here (by omega)
  have hwl := h.wlen
  have HP := hid (fun n => pkPlace_any (x.drewN n) b w i A q o (h.raw.below (below_drewN x n)).c0 (by rw [hA]; simp) (by omega) (by rw [hq, ← hA]; omega) (by rw [ho, ← hA]; omega))
  have HM := hid (fun n => pkMask_any (x.drewN n) b w (h.raw.below (below_drewN x n)).c0 h.w2)
  obtain ⟨M, hM⟩ : ∃ M, M = 2 ^ w - 1 := ⟨_, rfl⟩
  rw [← hM] at HM
  have hM64 : M < 18446744073709551616 := by rw [hM]; exact mask_lt h.w2
  have hx0 := wget_lt h.wd.lt q
  have k0 := h.raw.c0
  have k2 := h.raw.c2
  have kw := h.raw.word hql
  have hfit := h.fit.get i
  have hp31 := pow31 h.w2
  have ho64 : (o : Int) < 64 := by omega
  have hwi : (w : Int) ≤ 31 := by have := h.w2; omega
  obtain ⟨X, hX⟩ : ∃ X, X = l.getD i 0 := ⟨_, rfl⟩
  have hXb : (X : Int) < 2147483648 := by rw [hX]; omega
  rw [← hX]
  by_cases h2 : 64 < o + w
  · have hql2 : q + 1 < W.length := by rw [h.wd.len]; exact place_lt2 hi hq ho h2
    have kw2 := h.raw.word hql2
    have hx1 := wget_lt h.wd.lt (q + 1)
    have hres := h.wd.get_two h.fit hq ho h.w2
    rw [← hM, ← hX] at hres
    obtain ⟨x0, hx0e⟩ : ∃ x0, x0 = W.getD q 0 := ⟨_, rfl⟩
    obtain ⟨x1, hx1e⟩ : ∃ x1, x1 = W.getD (q + 1) 0 := ⟨_, rfl⟩
    rw [← hx0e, ← hx1e] at hres
    rw [← hx0e] at kw hx0
    rw [← hx1e] at kw2 hx1
    obtain ⟨y, hy⟩ : ∃ y, y = x0 >>> o := ⟨_, rfl⟩
    obtain ⟨r, hr⟩ : ∃ r, r = 64 - o := ⟨_, rfl⟩
    obtain ⟨z, hz⟩ : ∃ z, z = x1 <<< r % 18446744073709551616 := ⟨_, rfl⟩
    rw [← hy, ← hr, ← hz] at hres
    have hy64 : y < 18446744073709551616 := by rw [hy]; exact Nat.lt_of_le_of_lt (shr_le _ _) hx0
    have hz64 : z < 18446744073709551616 := by rw [hz]; exact mod64_lt _
    have f1 : (x0 : Int) / 2 ^ o = (y : Int) := by rw [hy, Nat.shiftRight_eq_div_pow]; simp
    have f2 : IntKind.u64.wrap ((x1 : Int) * 2 ^ r) = (z : Int) := by rw [IntKind.wrap_u64, hz, Nat.shiftLeft_eq]; simp
    have f3 : bits .or .u64 (y : Int) (z : Int) = ((y ||| z : Nat) : Int) := u64_or_nat y z hy64 hz64
    have hyz := or_lt64 hy64 hz64
    obtain ⟨u, hu⟩ : ∃ u, u = y ||| z := ⟨_, rfl⟩
    rw [← hu] at f3 hyz hres
    have f4 : bits .and .u64 (u : Int) (M : Int) = (X : Int) := by rw [u64_and_nat u M hyz hM64, hres]
    have hrr : 64 - (o : Int) = (r : Int) := by omega
    have hr64 : (r : Int) < 64 := by omega
    have hgt : (64 : Int) < (o : Int) + w := by omega
    obtain ⟨nw, hnw⟩ : ∃ nw, nw = W.length := ⟨_, rfl⟩
    rw [← hnw] at k2 hwl hql hql2 hc1
    have hqn : (q : Int) < (nw : Int) := by omega
    have hqn2 : (q : Int) + 1 < (nw : Int) := by omega
    have hq31 : (nw : Int) ≤ 31745 := by omega
    clear h hi hA hq ho hAb hx0e hx1e hy hr hz hu hM hX hfit hp31 hx0 hx1 hy64 hz64 hyz hM64 h2 hres hql hql2 hnw hwl
    go_enter Try.func36, Try.ntmps36
    go_wp2_with fail
    refine (HP.out 0).mono ?_
    rintro e w1 ⟨rfl, m1, rfl⟩
    go_wp2_with fail
    refine (HM.out _).mono ?_
    rintro e w2 ⟨rfl, rfl⟩
    go_wp2_with fail
    go_ret
    exact ⟨rfl, _, rfl⟩
  · have hres := h.wd.get_low h.fit hq ho (by omega)
    rw [← hM, ← hX] at hres
    obtain ⟨x0, hx0e⟩ : ∃ x0, x0 = W.getD q 0 := ⟨_, rfl⟩
    rw [← hx0e] at hres
    rw [← hx0e] at kw hx0
    obtain ⟨y, hy⟩ : ∃ y, y = x0 >>> o := ⟨_, rfl⟩
    rw [← hy] at hres
    have hy64 : y < 18446744073709551616 := by rw [hy]; exact Nat.lt_of_le_of_lt (shr_le _ _) hx0
    have f1 : (x0 : Int) / 2 ^ o = (y : Int) := by rw [hy, Nat.shiftRight_eq_div_pow]; simp
    have f4 : bits .and .u64 (y : Int) (M : Int) = (X : Int) := by rw [u64_and_nat y M hy64 hM64, hres]
    have hgt : (o : Int) + w ≤ 64 := by omega
    have hgt2 : ((64 : Int) < (o : Int) + w) = False := eq_false (by omega)
    obtain ⟨nw, hnw⟩ : ∃ nw, nw = W.length := ⟨_, rfl⟩
    rw [← hnw] at k2 hwl hql hc1
    have hqn : (q : Int) < (nw : Int) := by omega
    have hq31 : (nw : Int) ≤ 31745 := by omega
    clear h hi hA hq ho hAb hx0e hy hM hX hfit hp31 hx0 hy64 hM64 h2 hres hql hnw hwl
    go_enter Try.func36, Try.ntmps36
    go_wp2_with fail
    refine (HP.out 0).mono ?_
    rintro e w1 ⟨rfl, m1, rfl⟩
    go_wp2_with fail
    refine (HM.out _).mono ?_
    rintro e w2 ⟨rfl, rfl⟩
    go_wp2_with fail
    go_ret
    exact ⟨rfl, _, rfl⟩
theorem pkGet_any (x : World) (b i B : Nat) (v : Value) (w : Nat) (l W : List Nat) (h : PkAt x b v w l W B) (hi : i < l.length) :
    Calls Try.prog 36 #[.pointer (some ⟨b, 0, none⟩), .int .i64 (i : Int)] x fun e w' => e = .returned (.int .i64 ((l.getD i 0 : Nat) : Int)) ∧ Below x.heap.size x w' := by
  refine (pkGet_at x b i B v w l W h hi).mono ?_
  rintro e w' ⟨rfl, m, rfl⟩
  exact ⟨rfl, below_drewN x m⟩
theorem pkAt_nil (x : World) (i : Int) : Calls Try.prog 14 #[.pointer none, .int .i64 i] x fun e w' => e = .returned (.tuple #[.int .i64 0, .int .i64 11]) ∧ x = w' := by
  go_enter Try.func14, Try.ntmps14
  go_wp2_with fail
  go_ret2
  exact ⟨rfl, rfl⟩
theorem pkAt_bad (x : World) (i : Int) (B : Nat) (bb : Nat) (v : Value) (w : Nat) (l W : List Nat) (h : PkAt x bb v w l W B) (hi : hasZ l.length i = false) :
    Calls Try.prog 14 #[.pointer (some ⟨bb, 0, none⟩), .int .i64 i] x fun e w' => e = .returned (.tuple #[.int .i64 0, .int .i64 10]) ∧ x = w' := by
  have H := hid (pkHas_any x bb l.length i h.raw.c1)
  rw [hi] at H
  clear h hi
  go_enter Try.func14, Try.ntmps14
  go_wp2_with fail
  refine H.out.mono ?_
  rintro e w1 ⟨rfl, rfl⟩
  go_wp2_with fail
  go_ret2
  exact ⟨rfl, rfl⟩
theorem hasZ_nat {n i : Nat} : hasZ n (i : Int) = decide (i < n) := by unfold hasZ; rw [Bool.eq_iff_iff, decide_eq_true_iff, decide_eq_true_iff]; omega
theorem pkAt_any (x : World) (b i B : Nat) (v : Value) (w : Nat) (l W : List Nat) (h : PkAt x b v w l W B) (hi : i < l.length) :
    Calls Try.prog 14 #[.pointer (some ⟨b, 0, none⟩), .int .i64 (i : Int)] x fun e w' => e = .returned (.tuple #[.int .i64 ((l.getD i 0 : Nat) : Int), .int .i64 0]) ∧ Below x.heap.size x w' := by
  have H := hid (pkHas_any x b l.length i h.raw.c1)
  rw [hasZ_nat, decide_eq_true hi] at H
  have HG := hid (pkGet_any x b i B v w l W h hi)
  obtain ⟨X, hX⟩ : ∃ X, X = l.getD i 0 := ⟨_, rfl⟩
  rw [← hX] at HG ⊢
  clear h hi hX
  go_enter Try.func14, Try.ntmps14
  go_wp2_with fail
  refine H.out.mono ?_
  rintro e w1 ⟨rfl, rfl⟩
  go_wp2_with fail
  refine HG.out.mono ?_
  rintro e w2 ⟨rfl, hb⟩
  have HB := hid hb
  clear hb
  go_wp2_with fail
  go_ret2
  exact ⟨rfl, HB.out⟩
end Go.Proofs.Ytcgapplblhbdlaa
