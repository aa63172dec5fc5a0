/- CONTRACTS: may it lead there, is a superblock right, its page; one of one kind as one of the other. -/
import Derived.Test.YtebacgkeolofmaaU15
import Derived.Lib.MinMax
import Derived.Laws.Bits128
namespace Go.Proofs.Ytebacgkeolofmaa
open Go.RowKit Go.Inc

theorem pg_cases (n : Int) : (n < 0 ∧ pgOk n = false) ∨ (n = 0 ∧ pgOk n = true) ∨ (n = 1 ∧ pgOk n = false) ∨ (2 ≤ n ∧ n < 2048 ∧ pgOk n = true) ∨ (2048 ≤ n ∧ pgOk n = false) := by
  unfold pgOk
  simp only [decide_eq_true_eq, decide_eq_false_iff_not]
  omega
theorem mayLead_any (n : Int) (w : World) : Calls Try.prog 35 #[.int .i64 n] w fun r w' => r = .returned (.bool (pgOk n)) ∧ w = w' := by
  have hc := pg_cases n
  generalize pgOk n = q at *
  rcases hc with ⟨h1, h⟩ | ⟨rfl, h⟩ | ⟨rfl, h⟩ | ⟨h1, h2, h⟩ | ⟨h1, h⟩
  · have h0 : (n == 0) = false := by rw [beq_eq_false_iff_ne]; omega
    subst h
    go_enter Try.func35, Try.ntmps35
    go_wp2_with fail
    go_ret
    exact ⟨rfl, rfl⟩
  · subst h
    go_enter Try.func35, Try.ntmps35
    go_wp2_with fail
    go_ret
    exact ⟨rfl, rfl⟩
  · subst h
    go_enter Try.func35, Try.ntmps35
    go_wp2_with fail
    go_ret
    exact ⟨rfl, rfl⟩
  · have h0 : (n == 0) = false := by rw [beq_eq_false_iff_ne]; omega
    subst h
    go_enter Try.func35, Try.ntmps35
    go_wp2_with fail
    go_ret
    exact ⟨rfl, rfl⟩
  · have h0 : (n == 0) = false := by rw [beq_eq_false_iff_ne]; omega
    have HD : Hid (decide (n < 2048) = false) := hid (decide_eq_false (by omega))
    subst h
    go_enter Try.func35, Try.ntmps35
    go_wp2_with fail
    go_ret
    exact ⟨congrArg (fun b => Ending.returned (.bool b)) HD.out, rfl⟩
theorem refPage_any (n : Int) (w : World) : Calls Try.prog 34 #[.int .i64 n] w fun r w' => r = .returned (.bool (pgOk n)) ∧ w = w' := by
  have hc := pg_cases n
  generalize pgOk n = q at *
  rcases hc with ⟨h1, h⟩ | ⟨rfl, h⟩ | ⟨rfl, h⟩ | ⟨h1, h2, h⟩ | ⟨h1, h⟩
  · have h0 : (n == 0) = false := by rw [beq_eq_false_iff_ne]; omega
    subst h
    go_enter Try.func34, Try.ntmps34
    go_wp2_with fail
    go_ret
    exact ⟨rfl, rfl⟩
  · subst h
    go_enter Try.func34, Try.ntmps34
    go_wp2_with fail
    go_ret
    exact ⟨rfl, rfl⟩
  · subst h
    go_enter Try.func34, Try.ntmps34
    go_wp2_with fail
    go_ret
    exact ⟨rfl, rfl⟩
  · have h0 : (n == 0) = false := by rw [beq_eq_false_iff_ne]; omega
    subst h
    go_enter Try.func34, Try.ntmps34
    go_wp2_with fail
    go_ret
    exact ⟨rfl, rfl⟩
  · have h0 : (n == 0) = false := by rw [beq_eq_false_iff_ne]; omega
    have HD : Hid (decide (n < 2048) = false) := hid (decide_eq_false (by omega))
    subst h
    go_enter Try.func34, Try.ntmps34
    go_wp2_with fail
    go_ret
    exact ⟨congrArg (fun b => Ending.returned (.bool b)) HD.out, rfl⟩

theorem sp_cases (e r s t : Int) : (e < 1 ∧ spChk ⟨e, r, s, t⟩ = 10) ∨ (1 ≤ e ∧ 4294967295 < e ∧ spChk ⟨e, r, s, t⟩ = 10) ∨ (1 ≤ e ∧ e ≤ 4294967295 ∧ pgOk r = false ∧ spChk ⟨e, r, s, t⟩ = 10) ∨
    (1 ≤ e ∧ e ≤ 4294967295 ∧ pgOk r = true ∧ pgOk s = false ∧ spChk ⟨e, r, s, t⟩ = 10) ∨ (1 ≤ e ∧ e ≤ 4294967295 ∧ pgOk r = true ∧ pgOk s = true ∧ t < 0 ∧ spChk ⟨e, r, s, t⟩ = 10) ∨
    (1 ≤ e ∧ e ≤ 4294967295 ∧ pgOk r = true ∧ pgOk s = true ∧ 0 ≤ t ∧ 2147483647 < t ∧ spChk ⟨e, r, s, t⟩ = 10) ∨ (1 ≤ e ∧ e ≤ 4294967295 ∧ pgOk r = true ∧ pgOk s = true ∧ 0 ≤ t ∧ t ≤ 2147483647 ∧ spChk ⟨e, r, s, t⟩ = 0) := by
  unfold spChk Sp.ok
  simp only []
  by_cases h1 : e < 1
  · exact .inl ⟨h1, by rw [show decide (1 ≤ e ∧ e ≤ 4294967295) = false from decide_eq_false (by omega)]; simp⟩
  right
  by_cases h2 : 4294967295 < e
  · exact .inl ⟨by omega, h2, by rw [show decide (1 ≤ e ∧ e ≤ 4294967295) = false from decide_eq_false (by omega)]; simp⟩
  right
  rw [show decide (1 ≤ e ∧ e ≤ 4294967295) = true from decide_eq_true (by omega)]
  cases hr : pgOk r
  · exact .inl ⟨by omega, by omega, rfl, by simp⟩
  right
  cases hs : pgOk s
  · exact .inl ⟨by omega, by omega, rfl, rfl, by simp⟩
  right
  by_cases h3 : t < 0
  · exact .inl ⟨by omega, by omega, rfl, rfl, h3, by rw [show decide (0 ≤ t ∧ t ≤ 2147483647) = false from decide_eq_false (by omega)]; simp⟩
  right
  by_cases h4 : 2147483647 < t
  · exact .inl ⟨by omega, by omega, rfl, rfl, by omega, h4, by rw [show decide (0 ≤ t ∧ t ≤ 2147483647) = false from decide_eq_false (by omega)]; simp⟩
  · exact .inr ⟨by omega, by omega, rfl, rfl, by omega, by omega, by rw [show decide (0 ≤ t ∧ t ≤ 2147483647) = true from decide_eq_true (by omega)]; simp⟩

set_option maxHeartbeats 2000000 in
theorem fcheck_any (e r s t : Int) (w : World) :
    Calls Try.prog 11 #[.agg #[.int .i64 e, .int .i64 r, .int .i64 s, .int .i64 t]] w fun x w' => x = .returned (.int .i64 (spChk ⟨e, r, s, t⟩ : Nat)) ∧ Below w.heap.size w w' := by
  have hc := sp_cases e r s t
  generalize spChk ⟨e, r, s, t⟩ = q at *
  obtain ⟨w1, hw1⟩ : ∃ w1, w1 = w.alloc (.cells #[.int .i64 e, .int .i64 r, .int .i64 s, .int .i64 t] 24) := ⟨_, rfl⟩
  have HB : Hid (Below w.heap.size w w1) := hid (by rw [hw1]; exact (Below.refl w.heap.size w).alloc (Nat.le_refl _) _)
  have hrow : w1.heap[w.heap.size]? = some (.cells #[.int .i64 e, .int .i64 r, .int .i64 s, .int .i64 t] 24 (0, 0)) := by rw [hw1]; exact heap_alloc_new w _
  have c0 := cell_of_row w1 _ 0 _ _ _ hrow
  have c1 := cell_of_row w1 _ 1 _ _ _ hrow
  have c2 := cell_of_row w1 _ 2 _ _ _ hrow
  have c3 := cell_of_row w1 _ 3 _ _ _ hrow
  have HR := hid (mayLead_any r w1)
  have HS := hid (mayLead_any s w1)
  have HW := hid hw1
  clear hw1 hrow
  rcases hc with ⟨h0, h⟩ | ⟨h0, h1, h⟩ | ⟨h0, h1, h2, h⟩ | ⟨h0, h1, h2, h3, h⟩ | ⟨h0, h1, h2, h3, h4, h⟩ | ⟨h0, h1, h2, h3, h4, h5, h⟩ | ⟨h0, h1, h2, h3, h4, h5, h⟩
  all_goals
    have HQ := hid h
    clear h
    try rw [h2] at HR
    try rw [h3] at HS
    try clear h2
    try clear h3
    go_enter Try.func11, Try.ntmps11
    go_upto_region 1 with fail
    rw [← HW.out]
    go_wp2_with fail
    try
      refine HR.out.mono ?_
      rintro x w2 ⟨rfl, rfl⟩
      go_wp2_with fail
    try
      refine HS.out.mono ?_
      rintro x w2 ⟨rfl, rfl⟩
      go_wp2_with fail
    go_ret
    exact ⟨by rw [HQ.out]; rfl, HB.out⟩
set_option maxHeartbeats 2000000 in
theorem refFCheck_any (e r s t : Int) (w : World) :
    Calls Try.prog 10 #[.agg #[.int .i64 e, .int .i64 r, .int .i64 s, .int .i64 t]] w fun x w' => x = .returned (.int .i64 (spChk ⟨e, r, s, t⟩ : Nat)) ∧ Below w.heap.size w w' := by
  have hc := sp_cases e r s t
  generalize spChk ⟨e, r, s, t⟩ = q at *
  obtain ⟨w1, hw1⟩ : ∃ w1, w1 = w.alloc (.cells #[.int .i64 e, .int .i64 r, .int .i64 s, .int .i64 t] 23) := ⟨_, rfl⟩
  have HB : Hid (Below w.heap.size w w1) := hid (by rw [hw1]; exact (Below.refl w.heap.size w).alloc (Nat.le_refl _) _)
  have hrow : w1.heap[w.heap.size]? = some (.cells #[.int .i64 e, .int .i64 r, .int .i64 s, .int .i64 t] 23 (0, 0)) := by rw [hw1]; exact heap_alloc_new w _
  have c0 := cell_of_row w1 _ 0 _ _ _ hrow
  have c1 := cell_of_row w1 _ 1 _ _ _ hrow
  have c2 := cell_of_row w1 _ 2 _ _ _ hrow
  have c3 := cell_of_row w1 _ 3 _ _ _ hrow
  have HR := hid (refPage_any r w1)
  have HS := hid (refPage_any s w1)
  have HW := hid hw1
  clear hw1 hrow
  rcases hc with ⟨h0, h⟩ | ⟨h0, h1, h⟩ | ⟨h0, h1, h2, h⟩ | ⟨h0, h1, h2, h3, h⟩ | ⟨h0, h1, h2, h3, h4, h⟩ | ⟨h0, h1, h2, h3, h4, h5, h⟩ | ⟨h0, h1, h2, h3, h4, h5, h⟩
  all_goals
    have HQ := hid h
    clear h
    try rw [h2] at HR
    try rw [h3] at HS
    try clear h2
    try clear h3
    go_enter Try.func10, Try.ntmps10
    go_upto_region 1 with fail
    rw [← HW.out]
    go_wp2_with fail
    try
      refine HR.out.mono ?_
      rintro x w2 ⟨rfl, rfl⟩
      go_wp2_with fail
    try
      refine HS.out.mono ?_
      rintro x w2 ⟨rfl, rfl⟩
      go_wp2_with fail
    go_ret
    exact ⟨by rw [HQ.out]; rfl, HB.out⟩

theorem and_one (n : Int) : bits .and .i64 n 1 = n % 2 := by
  have h1 : (BitVec.ofInt 64 1).toNat = 2 ^ 1 - 1 := by decide
  have key : (BitVec.ofInt 64 n &&& BitVec.ofInt 64 1).toNat = (n % ((2 ^ 64 : Nat) : Int)).toNat % 2 ^ 1 := by
    rw [BitVec.toNat_and, BitVec.toNat_ofInt, h1, Nat.and_two_pow_sub_one_eq_mod]
  show IntKind.i64.wrap ((BitVec.ofInt 64 n &&& BitVec.ofInt 64 1).toNat : Nat) = n % 2
  rw [key, IntKind.wrap_i64]
  omega
theorem slot_any (e : Int) (w : World) : Calls Try.prog 12 #[.int .i64 e] w fun x w' => x = .returned (.int .i64 (slot e : Nat)) ∧ w = w' := by
  go_enter Try.func12, Try.ntmps12
  go_wp2_with fail
  go_ret
  refine ⟨?_, rfl⟩
  rw [slot_int, ← and_one]
  rfl
theorem refSlot_any (e : Int) (w : World) : Calls Try.prog 13 #[.int .i64 e] w fun x w' => x = .returned (.int .i64 (slot e : Nat)) ∧ w = w' := by
  by_cases h : slot e = 0
  · have ht : (e.tmod 2 == 0) = true := by rw [beq_iff_eq]; unfold slot at h; exact Int.tmod_eq_zero_of_dvd (by omega)
    rw [h]
    go_enter Try.func13, Try.ntmps13
    go_wp2_with fail
    go_ret
    exact ⟨rfl, rfl⟩
  · have ht : (e.tmod 2 == 0) = false := by rw [beq_eq_false_iff_ne]; unfold slot at h; intro h0; have := Int.dvd_of_tmod_eq_zero h0; omega
    have h1' : slot e = 1 := by have := slot_lt e; omega
    rw [h1']
    clear h h1'
    go_enter Try.func13, Try.ntmps13
    go_wp2_with fail
    go_ret
    exact ⟨rfl, rfl⟩
set_option maxHeartbeats 1000000 in
theorem to_any (e r s t : Int) (w : World) :
    Calls Try.prog 8 #[.agg #[.int .i64 e, .int .i64 r, .int .i64 s, .int .i64 t]] w fun x w' => x = .returned (.agg #[.int .i64 e, .int .i64 r, .int .i64 s, .int .i64 t]) ∧ Below w.heap.size w w' := by
  go_enter Try.func8, Try.ntmps8
  go_wp2_with fail
  exact bodyPost_ret (v := .agg #[.int .i64 e, .int .i64 r, .int .i64 s, .int .i64 t]) (results_cell_row rfl _ _ (w.heap.size + 1) 24 _ (0, 0) _ rfl (heap_alloc2_new w _ _) Try.underlying24 rfl (by kernel_rfl)) rfl ⟨rfl, ((Below.refl _ _).alloc (Nat.le_refl _) _).alloc (by simp) _⟩
set_option maxHeartbeats 1000000 in
theorem of_any (e r s t : Int) (w : World) :
    Calls Try.prog 21 #[.agg #[.int .i64 e, .int .i64 r, .int .i64 s, .int .i64 t]] w fun x w' => x = .returned (.agg #[.int .i64 e, .int .i64 r, .int .i64 s, .int .i64 t]) ∧ Below w.heap.size w w' := by
  go_enter Try.func21, Try.ntmps21
  go_wp2_with fail
  exact bodyPost_ret (v := .agg #[.int .i64 e, .int .i64 r, .int .i64 s, .int .i64 t]) (results_cell_row rfl _ _ (w.heap.size + 1) 23 _ (0, 0) _ rfl (heap_alloc2_new w _ _) Try.underlying23 rfl (by kernel_rfl)) rfl ⟨rfl, ((Below.refl _ _).alloc (Nat.le_refl _) _).alloc (by simp) _⟩
end Go.Proofs.Ytebacgkeolofmaa
