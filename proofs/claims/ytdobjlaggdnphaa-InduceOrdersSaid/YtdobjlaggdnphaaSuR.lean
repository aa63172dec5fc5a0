/- CONTRACTS (suffix, as it landed): the product with 1; a list of -1s. -/
import Derived.Test.YtdobjlaggdnphaaSuE
import Derived.Lib.MinMax
import Derived.Laws.Bits64b
import Derived.Laws.CopyOwn
import Derived.Deep.RegionLaw
namespace Go.Inc
open Go.RowKit
/-- k times -1, then 0. -/
def rpL (n k : Nat) : List Int := List.replicate k (-1) ++ List.replicate (n - k) 0
theorem rpL_len {n k : Nat} (h : k ≤ n) : (rpL n k).length = n := by unfold rpL; simp; omega
theorem rpL_zero (n : Nat) : (madeCells #[Value.int .i64 0] n).toList = zvals (rpL n 0) := by
  apply List.ext_getElem
  · simp [madeCells, zvals, rpL]
  · intro i h1 h2
    simp [madeCells, zvals, rpL, Nat.mod_one]
theorem rpL_splice {n k j : Nat} (_h : k + j ≤ n) : splice (zvals (rpL n k)) k (zvals (List.replicate j (-1))) = zvals (rpL n (k + j)) := by
  unfold splice rpL
  rw [zvals_app, zvals_app, zvals_len, List.length_replicate]
  have e1 : (zvals (List.replicate k (-1)) ++ zvals (List.replicate (n - k) 0)).take k = zvals (List.replicate k (-1)) := by
    rw [List.take_append_of_le_length (by simp [zvals])]
    exact List.take_of_length_le (by simp [zvals])
  have e2 : (zvals (List.replicate k (-1)) ++ zvals (List.replicate (n - k) 0)).drop (k + j) = zvals (List.replicate (n - (k + j)) 0) := by
    rw [List.drop_append, List.drop_of_length_le (by simp [zvals])]
    simp [zvals]
    omega
  rw [e1, e2, ← List.append_assoc, ← zvals_app, List.replicate_append_replicate]
theorem rpL_full (n : Nat) : rpL n n = List.replicate n (-1) := by unfold rpL; simp
theorem rpL_cells {w : World} {g n k j : Nat} {T : TypeId} (hg : w.heap[g]? = some (.cells (zvals (rpL n k)).toArray T (0, 0))) (hj : j ≤ k) :
    ∀ i v, (zvals (List.replicate j (-1)))[i]? = some v → w.cell? ((⟨g, 0, none⟩ : Addr).add i) = some v := by
  intro i v hv
  have hi : i < j := by
    have := (List.getElem?_eq_some_iff.1 hv).1
    simpa [zvals] using this
  rw [Addr.add_lit, Nat.zero_add, cell_of_row _ _ _ _ _ _ hg]
  rw [show v = .int .i64 (-1) from by simpa [zvals, hi] using hv.symm]
  unfold rpL
  have hik : i < k := by omega
  rw [List.getElem?_toArray, zvals_app, List.getElem?_append_left (by simp [zvals]; omega)]
  simp [zvals, hik]
end Go.Inc
namespace Go.Proofs.Ytdobjlaggdnphaa
open Go.RowKit Go.Inc
theorem mul64_one (n : Nat) (hn : (n : Int) ≤ 65536) (w : World) : Calls Try.prog 80 #[.int .u64 1, .int .u64 (n : Int)] w fun e w' => e = .returned (.tuple #[.int .u64 0, .int .u64 (n : Int)]) ∧ w = w' := by
  have h1 : bits .and .u64 (n : Int) 4294967295 = (n : Int) := by
    have h := bits_and_u64_nat n 4294967295 (by omega) (by omega)
    have e : n &&& 4294967295 = n % 4294967296 := Nat.and_two_pow_sub_one_eq_mod n 32
    rw [e, Nat.mod_eq_of_lt (by omega)] at h
    exact h
  have h2 : bits .and .u64 1 4294967295 = 1 := by decide
  have h3 : (n : Int) / 4294967296 = 0 := by omega
  have h4 : IntKind.u64.wrap (n : Int) = (n : Int) := by rw [IntKind.wrap_u64]; omega
  have h5 : bits .and .u64 0 4294967295 = 0 := by decide
  go_enter Try.func80, Try.ntmps80
  go_wp2_with fail
  go_ret2
  exact ⟨rfl, rfl⟩
theorem mul_one_any (n : Nat) (hn : (n : Int) ≤ 65536) (w : World) : Calls Try.prog 70 #[.int .u64 1, .int .u64 (n : Int)] w fun e w' => e = .returned (.tuple #[.int .u64 0, .int .u64 (n : Int)]) ∧ w = w' := by
  have H := hid (mul64_one n hn w)
  have h4 : IntKind.u64.wrap (n : Int) = (n : Int) := by rw [IntKind.wrap_u64]; omega
  go_enter Try.func70, Try.ntmps70
  go_wp2_with fail
  refine H.out.mono ?_
  rintro e w' ⟨rfl, rfl⟩
  go_wp2_with fail
  go_ret2
  exact ⟨rfl, rfl⟩
set_option maxRecDepth 20000 in
set_option maxHeartbeats 2000000 in
theorem repeat_any (x : World) (g0 n : Nat) (hn : (n : Int) ≤ 65536) (hc : x.cell? ⟨g0, 0, none⟩ = some (.int .i64 (-1))) :
    Calls Try.prog 50 #[.slice (some ⟨g0, 0, none⟩) 1 1, .int .i64 (n : Int)] x fun e w' => ∃ g, e = .returned (.slice (some ⟨g, 0, none⟩) n n) ∧ x.heap.size ≤ g ∧ w'.heap[g]? = some (.cells (zvals (List.replicate n (-1))).toArray 3 (0, 0)) ∧ Below x.heap.size x w' := by
  have H := hid (mul_one_any n hn x)
  have h4 : IntKind.u64.wrap (n : Int) = (n : Int) := by rw [IntKind.wrap_u64]; omega
  have h5 : decide ((n : Int) > 9223372036854775807) = false := decide_eq_false (by omega)
  have HC : Hid (∀ y, Below x.heap.size x y → ∀ m, m ≤ 1 → ∀ j u, (zvals (List.replicate m (-1)))[j]? = some u → y.cell? ((⟨g0, 0, none⟩ : Addr).add j) = some u) := hid (fun y hy m hm j u hu => by
    have hj : j < m := by
      have := (List.getElem?_eq_some_iff.1 hu).1
      simpa [zvals] using this
    obtain rfl : j = 0 := by omega
    rw [show u = .int .i64 (-1) from by simpa [zvals, hj] using hu.symm, Addr.add_lit, World.cell?_of_block (hy.block g0 (cell_lt hc))]
    exact hc)
  obtain ⟨i0, hi, hz0, hz1, hz2⟩ := info_parts infoIntS
  have HI := hid (And.intro hi (And.intro hz0 (And.intro hz1 hz2)))
  obtain ⟨k0, hk0⟩ : ∃ k0, k0 = min 1 n := ⟨_, rfl⟩
  have HK0 := hid hk0
  have hk1 : (k0 : Int) ≤ 1 := by omega
  clear hc hi hz0 hz1 hz2 hk0
  go_enter Try.func50, Try.ntmps50
  go_wp2_with fail
  refine H.out.mono ?_
  rintro e w' ⟨rfl, rfl⟩
  clear H
  go_wp2_with (refine wpList_make_full _ rfl _ _ 22 rfl x.heap.size 3 i0 (.int .i64 0) 1 Try.underlying22 HI.out.1 HI.out.2.1 HI.out.2.2.1 .i64 .i64 _ _ n rfl rfl rfl rfl (by rw [HI.out.2.2.2]; omega) (by unfold maxLen; omega) (Nat.le_refl _) ?_)
  intro w1 hown hg
  have HB1 : Hid (Below x.heap.size x w1) := hid ⟨hg.os, hg.tape, hg.output, hg.size, fun i hi => hg.block i hi (by simp)⟩
  have HR : Hid (w1.heap[x.heap.size]? = some (.cells (zvals (rpL n 0)).toArray 3 (0, 0))) := hid (by
    rw [rpL_zero n] at hown
    rcases hown.2 with ⟨h0, _⟩ | ⟨g', cap, cur, hv, hb, hg, hnc, hm, hcs, ht⟩
    · cases h0
    · simp only [Value.slice.injEq, Option.some.injEq, Addr.mk.injEq, and_true, true_and] at hv
      obtain ⟨rfl, rfl⟩ := hv
      rw [hg, ← ht]
      rw [List.take_of_length_le (by simp; simp at hcs; omega)])
  clear hown hg HI
  obtain ⟨g, hg⟩ : ∃ g, g = x.heap.size := ⟨_, rfl⟩
  rw [← hg] at HR ⊢
  have HG := hid hg
  clear hg
  go_wp2_with (refine wpList_copy_splice rfl (.tmp 31) (.tmp 32) 22 22 rfl 3 Try.underlying22 (by kernel_rfl) _ _ n n 1 1 rfl rfl g 0 (zvals (rpL n 0)) 3 HR.out (zvals (List.replicate k0 (-1))) (by rw [zvals_len, List.length_replicate]; exact HK0.out) (fun _ => ⟨rfl, _, rfl, HC.out _ HB1.out k0 (by omega)⟩) (by rw [zvals_len, zvals_len, List.length_replicate, rpL_len (Nat.zero_le _)]; have := HK0.out; omega) (zvals_one _) x.heap.size x HB1.out (by rw [HG.out]; exact Nat.le_refl _) ?_)
  intro w2 hr2 hb2
  have HB2 := hid hb2
  have HR2 : Hid (w2.heap[g]? = some (.cells (zvals (rpL n k0)).toArray 3 (0, 0))) := hid (by
    have h := hr2.out
    rw [rpL_splice (by have := HK0.out; omega), Nat.zero_add] at h
    exact h)
  have hcl : (zvals (List.replicate k0 (-1))).length = k0 := by rw [zvals_len, List.length_replicate]
  rw [hcl]
  clear hr2 hb2 HB1 HR hcl
  go_wp2_with fail
  go_loopw [8] (fun i wr => ∃ k : Nat, i = .int .i64 (k : Int) ∧ k ≤ n ∧ (k = 0 → n = 0) ∧ wr.heap[g]? = some (.cells (zvals (rpL n k)).toArray 3 (0, 0)) ∧ Below x.heap.size x wr) (fun i _ => n - (intOf i).toNat)
  case atStart => exact ⟨k0, rfl, by have := HK0.out; omega, fun h => by have := HK0.out; omega, HR2.out, HB2.out⟩
  case round =>
    clear HB2 HR2
    obtain ⟨k, rfl, hkn, hk0, hr, hb⟩ := hrel
    have HR := hid hr
    have HB := hid hb
    clear hr hb
    by_cases hlt : k < n
    · have hlt1 : (k < n) = True := eq_true hlt
      have hnk : (n = k) = False := eq_false (by omega)
      obtain ⟨j, hj⟩ : ∃ j, j = min k (n - k) := ⟨_, rfl⟩
      have HJ : Hid (j = Nat.min k (n - k) ∧ 0 < j ∧ k + j ≤ n ∧ j ≤ k) := hid ⟨hj, by omega, by omega, by omega⟩
      have hki : (k : Int) ≤ (n : Int) := by omega
      have hjb : (j : Int) ≤ 65536 := by omega
      have HSP : Hid (splice (zvals (rpL n k)) k (zvals (List.replicate j (-1))) = zvals (rpL n (k + j))) := hid (rpL_splice HJ.out.2.2.1)
      have hcl : (zvals (List.replicate j (-1))).length = j := by rw [zvals_len, List.length_replicate]
      have HFT : Hid (k + (zvals (List.replicate j (-1))).length ≤ (zvals (rpL n k)).length) := hid (by rw [hcl, zvals_len, rpL_len (by omega)]; exact HJ.out.2.2.1)
      have HLE : Hid ((zvals (List.replicate j (-1))).length = Nat.min k (n - k)) := hid (by rw [hcl]; exact HJ.out.1)
      have HCL := hid hcl
      obtain ⟨q, hq⟩ : ∃ q : Nat, (k : Int) + (j : Int) = (q : Int) := ⟨k + j, by omega⟩
      have HQ : Hid (q = k + j) := hid (by omega)
      have hqw : IntKind.i64.wrap (q : Int) = (q : Int) := by rw [IntKind.wrap_i64]; have := HJ.out; omega
      clear hlt hj hk0 hcl
      go_wp2_with fail
      go_region_law (refine step_copy_splice rfl (.tmp 41) (.tmp 44) 22 22 rfl 3 Try.underlying22 (by kernel_rfl) (some ⟨g, k, none⟩) (some ⟨g, 0, none⟩) (n - k) (n - k) k n (by kernel_rfl) (by kernel_rfl) g k (zvals (rpL n k)) 3 HR.out (zvals (List.replicate j (-1))) HLE.out (fun _ => ⟨rfl, _, rfl, rpL_cells HR.out HJ.out.2.2.2⟩) HFT.out (zvals_one _) x.heap.size x HB.out.drew (by rw [HG.out]; exact Nat.le_refl _) ?_; intro w4 hr4 hb4)
      all_goals
        have HR4 : Hid (w4.heap[g]? = some (.cells (zvals (rpL n (k + j))).toArray 3 (0, 0))) := hid (by rw [← HSP.out]; exact hr4.out)
        have HB4 := hid hb4
        clear hr4 hb4
        rw [HCL.out]
        go_simp
        try go_wp2_with fail
        go_roundw
        case rel => exact ⟨k + j, by rw [← HQ.out], HJ.out.2.2.1, fun h => by have := HJ.out; omega, HR4.out, HB4.out⟩
        case measure => simp [intOf]; have := HJ.out; have := HQ.out; omega
    · have hlt1 : (k < n) = False := eq_false hlt
      have HKN : Hid (k = n) := hid (by omega)
      clear hlt hk0
      go_wp2_with fail
      go_ret
      exact ⟨g, rfl, by rw [HG.out]; exact Nat.le_refl _, by have h := HR.out; rw [HKN.out, rpL_full] at h; exact h, HB.out⟩
end Go.Proofs.Ytdobjlaggdnphaa

