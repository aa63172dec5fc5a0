/- CONTRACTS (suffix, as it landed): the product with 1; a list of -1s. CONTRACTS (suffix, as it landed): Turned. CONTRACTS (suffix, as it landed): Right. CONTRACTS (suffix, as it landed): Right, Less, Common, each error of theirs. CONTRACTS (suffix, as it landed): Commons. CONTRACTS (suffix, as it landed): BinarySearch, Clone, Piece. -/
import Derived.Test.YtmllpednaibeeaaU9
import Derived.Laws.Bits64b
import Derived.Laws.CopyOwn
import Derived.Deep.RegionLaw
namespace Go.Inc
open Go.RowKit
/-- k times -1, then 0. -/
def rpL (n k : Nat) : List Int := List.replicate k (-1) ++ List.replicate (n - k) 0
theorem rpL_len {n k : Nat} (h : k ≤ n) : (rpL n k).length = n := by unfold rpL; simp; omega
theorem rpL_zero (n : Nat) : (madeCells #[Value.int .i64 0] n).toList = zvals (rpL n 0) := by
  apply List.ext_getElem
  · simp [madeCells, zvals, rpL]
  · intro i h1 h2
    simp [madeCells, zvals, rpL, Nat.mod_one]
theorem rpL_splice {n k j : Nat} (_h : k + j ≤ n) : splice (zvals (rpL n k)) k (zvals (List.replicate j (-1))) = zvals (rpL n (k + j)) := by
  unfold splice rpL
  rw [zvals_app, zvals_app, zvals_len, List.length_replicate]
  have e1 : (zvals (List.replicate k (-1)) ++ zvals (List.replicate (n - k) 0)).take k = zvals (List.replicate k (-1)) := by
    rw [List.take_append_of_le_length (by simp [zvals])]
    exact List.take_of_length_le (by simp [zvals])
  have e2 : (zvals (List.replicate k (-1)) ++ zvals (List.replicate (n - k) 0)).drop (k + j) = zvals (List.replicate (n - (k + j)) 0) := by
    rw [List.drop_append, List.drop_of_length_le (by simp [zvals])]
    simp [zvals]
    omega
  rw [e1, e2, ← List.append_assoc, ← zvals_app, List.replicate_append_replicate]
theorem rpL_full (n : Nat) : rpL n n = List.replicate n (-1) := by unfold rpL; simp
theorem rpL_cells {w : World} {g n k j : Nat} {T : TypeId} (hg : w.heap[g]? = some (.cells (zvals (rpL n k)).toArray T (0, 0))) (hj : j ≤ k) :
    ∀ i v, (zvals (List.replicate j (-1)))[i]? = some v → w.cell? ((⟨g, 0, none⟩ : Addr).add i) = some v := by
  intro i v hv
  have hi : i < j := by
    have := (List.getElem?_eq_some_iff.1 hv).1
    simpa [zvals] using this
  rw [Addr.add_lit, Nat.zero_add, cell_of_row _ _ _ _ _ _ hg]
  rw [show v = .int .i64 (-1) from by simpa [zvals, hi] using hv.symm]
  unfold rpL
  have hik : i < k := by omega
  rw [List.getElem?_toArray, zvals_app, List.getElem?_append_left (by simp [zvals]; omega)]
  simp [zvals, hik]
end Go.Inc
namespace Go.Proofs.Ytmllpednaibeeaa
open Go.RowKit Go.Inc
theorem mul64_one (n : Nat) (hn : (n : Int) ≤ 65536) (w : World) : Calls Try.prog 79 #[.int .u64 1, .int .u64 (n : Int)] w fun e w' => e = .returned (.tuple #[.int .u64 0, .int .u64 (n : Int)]) ∧ w = w' := by
  have h1 : bits .and .u64 (n : Int) 4294967295 = (n : Int) := by
    have h := bits_and_u64_nat n 4294967295 (by omega) (by omega)
    have e : n &&& 4294967295 = n % 4294967296 := Nat.and_two_pow_sub_one_eq_mod n 32
    rw [e, Nat.mod_eq_of_lt (by omega)] at h
    exact h
  have h2 : bits .and .u64 1 4294967295 = 1 := by decide
  have h3 : (n : Int) / 4294967296 = 0 := by omega
  have h4 : IntKind.u64.wrap (n : Int) = (n : Int) := by rw [IntKind.wrap_u64]; omega
  have h5 : bits .and .u64 0 4294967295 = 0 := by decide
  go_enter Try.func79, Try.ntmps79
  go_wp2_with fail
  go_ret2
  exact ⟨rfl, rfl⟩
theorem mul_one_any (n : Nat) (hn : (n : Int) ≤ 65536) (w : World) : Calls Try.prog 64 #[.int .u64 1, .int .u64 (n : Int)] w fun e w' => e = .returned (.tuple #[.int .u64 0, .int .u64 (n : Int)]) ∧ w = w' := by
  have H := hid (mul64_one n hn w)
  have h4 : IntKind.u64.wrap (n : Int) = (n : Int) := by rw [IntKind.wrap_u64]; omega
  go_enter Try.func64, Try.ntmps64
  go_wp2_with fail
  refine H.out.mono ?_
  rintro e w' ⟨rfl, rfl⟩
  go_wp2_with fail
  go_ret2
  exact ⟨rfl, rfl⟩
set_option maxRecDepth 20000 in
set_option maxHeartbeats 2000000 in
theorem repeat_any (x : World) (g0 n : Nat) (hn : (n : Int) ≤ 65536) (hc : x.cell? ⟨g0, 0, none⟩ = some (.int .i64 (-1))) :
    Calls Try.prog 42 #[.slice (some ⟨g0, 0, none⟩) 1 1, .int .i64 (n : Int)] x fun e w' => ∃ g, e = .returned (.slice (some ⟨g, 0, none⟩) n n) ∧ x.heap.size ≤ g ∧ w'.heap[g]? = some (.cells (zvals (List.replicate n (-1))).toArray 3 (0, 0)) ∧ Below x.heap.size x w' := by
  have H := hid (mul_one_any n hn x)
  have h4 : IntKind.u64.wrap (n : Int) = (n : Int) := by rw [IntKind.wrap_u64]; omega
  have h5 : decide ((n : Int) > 9223372036854775807) = false := decide_eq_false (by omega)
  have HC : Hid (∀ y, Below x.heap.size x y → ∀ m, m ≤ 1 → ∀ j u, (zvals (List.replicate m (-1)))[j]? = some u → y.cell? ((⟨g0, 0, none⟩ : Addr).add j) = some u) := hid (fun y hy m hm j u hu => by
    have hj : j < m := by
      have := (List.getElem?_eq_some_iff.1 hu).1
      simpa [zvals] using this
    obtain rfl : j = 0 := by omega
    rw [show u = .int .i64 (-1) from by simpa [zvals, hj] using hu.symm, Addr.add_lit, World.cell?_of_block (hy.block g0 (cell_lt hc))]
    exact hc)
  obtain ⟨i0, hi, hz0, hz1, hz2⟩ := info_parts infoIntS
  have HI := hid (And.intro hi (And.intro hz0 (And.intro hz1 hz2)))
  obtain ⟨k0, hk0⟩ : ∃ k0, k0 = min 1 n := ⟨_, rfl⟩
  have HK0 := hid hk0
  have hk1 : (k0 : Int) ≤ 1 := by omega
  clear hc hi hz0 hz1 hz2 hk0
  go_enter Try.func42, Try.ntmps42
  go_wp2_with fail
  refine H.out.mono ?_
  rintro e w' ⟨rfl, rfl⟩
  clear H
  go_wp2_with (refine wpList_make_full _ rfl _ _ 22 rfl x.heap.size 3 i0 (.int .i64 0) 1 Try.underlying22 HI.out.1 HI.out.2.1 HI.out.2.2.1 .i64 .i64 _ _ n rfl rfl rfl rfl (by rw [HI.out.2.2.2]; omega) (by unfold maxLen; omega) (Nat.le_refl _) ?_)
  intro w1 hown hg
  have HB1 : Hid (Below x.heap.size x w1) := hid ⟨hg.os, hg.tape, hg.output, hg.size, fun i hi => hg.block i hi (by simp)⟩
  have HR : Hid (w1.heap[x.heap.size]? = some (.cells (zvals (rpL n 0)).toArray 3 (0, 0))) := hid (by
    rw [rpL_zero n] at hown
    rcases hown.2 with ⟨h0, _⟩ | ⟨g', cap, cur, hv, hb, hg, hnc, hm, hcs, ht⟩
    · cases h0
    · simp only [Value.slice.injEq, Option.some.injEq, Addr.mk.injEq, and_true, true_and] at hv
      obtain ⟨rfl, rfl⟩ := hv
      rw [hg, ← ht]
      rw [List.take_of_length_le (by simp; simp at hcs; omega)])
  clear hown hg HI
  obtain ⟨g, hg⟩ : ∃ g, g = x.heap.size := ⟨_, rfl⟩
  rw [← hg] at HR ⊢
  have HG := hid hg
  clear hg
  go_wp2_with (refine wpList_copy_splice rfl (.tmp 31) (.tmp 32) 22 22 rfl 3 Try.underlying22 (by kernel_rfl) _ _ n n 1 1 rfl rfl g 0 (zvals (rpL n 0)) 3 HR.out (zvals (List.replicate k0 (-1))) (by rw [zvals_len, List.length_replicate]; exact HK0.out) (fun _ => ⟨rfl, _, rfl, HC.out _ HB1.out k0 (by omega)⟩) (by rw [zvals_len, zvals_len, List.length_replicate, rpL_len (Nat.zero_le _)]; have := HK0.out; omega) (zvals_one _) x.heap.size x HB1.out (by rw [HG.out]; exact Nat.le_refl _) ?_)
  intro w2 hr2 hb2
  have HB2 := hid hb2
  have HR2 : Hid (w2.heap[g]? = some (.cells (zvals (rpL n k0)).toArray 3 (0, 0))) := hid (by
    have h := hr2.out
    rw [rpL_splice (by have := HK0.out; omega), Nat.zero_add] at h
    exact h)
  have hcl : (zvals (List.replicate k0 (-1))).length = k0 := by rw [zvals_len, List.length_replicate]
  rw [hcl]
  clear hr2 hb2 HB1 HR hcl
  go_wp2_with fail
  go_loopw [8] (fun i wr => ∃ k : Nat, i = .int .i64 (k : Int) ∧ k ≤ n ∧ (k = 0 → n = 0) ∧ wr.heap[g]? = some (.cells (zvals (rpL n k)).toArray 3 (0, 0)) ∧ Below x.heap.size x wr) (fun i _ => n - (intOf i).toNat)
  case atStart => exact ⟨k0, rfl, by have := HK0.out; omega, fun h => by have := HK0.out; omega, HR2.out, HB2.out⟩
  case round =>
    clear HB2 HR2
    obtain ⟨k, rfl, hkn, hk0, hr, hb⟩ := hrel
    have HR := hid hr
    have HB := hid hb
    clear hr hb
    by_cases hlt : k < n
    · have hlt1 : (k < n) = True := eq_true hlt
      have hnk : (n = k) = False := eq_false (by omega)
      obtain ⟨j, hj⟩ : ∃ j, j = min k (n - k) := ⟨_, rfl⟩
      have HJ : Hid (j = Nat.min k (n - k) ∧ 0 < j ∧ k + j ≤ n ∧ j ≤ k) := hid ⟨hj, by omega, by omega, by omega⟩
      have hki : (k : Int) ≤ (n : Int) := by omega
      have hjb : (j : Int) ≤ 65536 := by omega
      have HSP : Hid (splice (zvals (rpL n k)) k (zvals (List.replicate j (-1))) = zvals (rpL n (k + j))) := hid (rpL_splice HJ.out.2.2.1)
      have hcl : (zvals (List.replicate j (-1))).length = j := by rw [zvals_len, List.length_replicate]
      have HFT : Hid (k + (zvals (List.replicate j (-1))).length ≤ (zvals (rpL n k)).length) := hid (by rw [hcl, zvals_len, rpL_len (by omega)]; exact HJ.out.2.2.1)
      have HLE : Hid ((zvals (List.replicate j (-1))).length = Nat.min k (n - k)) := hid (by rw [hcl]; exact HJ.out.1)
      have HCL := hid hcl
      obtain ⟨q, hq⟩ : ∃ q : Nat, (k : Int) + (j : Int) = (q : Int) := ⟨k + j, by omega⟩
      have HQ : Hid (q = k + j) := hid (by omega)
      have hqw : IntKind.i64.wrap (q : Int) = (q : Int) := by rw [IntKind.wrap_i64]; have := HJ.out; omega
      clear hlt hj hk0 hcl
      go_wp2_with fail
      go_region_law (refine step_copy_splice rfl (.tmp 41) (.tmp 44) 22 22 rfl 3 Try.underlying22 (by kernel_rfl) (some ⟨g, k, none⟩) (some ⟨g, 0, none⟩) (n - k) (n - k) k n (by kernel_rfl) (by kernel_rfl) g k (zvals (rpL n k)) 3 HR.out (zvals (List.replicate j (-1))) HLE.out (fun _ => ⟨rfl, _, rfl, rpL_cells HR.out HJ.out.2.2.2⟩) HFT.out (zvals_one _) x.heap.size x HB.out.drew (by rw [HG.out]; exact Nat.le_refl _) ?_; intro w4 hr4 hb4)
      all_goals
        have HR4 : Hid (w4.heap[g]? = some (.cells (zvals (rpL n (k + j))).toArray 3 (0, 0))) := hid (by rw [← HSP.out]; exact hr4.out)
        have HB4 := hid hb4
        clear hr4 hb4
        rw [HCL.out]
        go_simp
        try go_wp2_with fail
        go_roundw
        case rel => exact ⟨k + j, by rw [← HQ.out], HJ.out.2.2.1, fun h => by have := HJ.out; omega, HR4.out, HB4.out⟩
        case measure => simp [intOf]; have := HJ.out; have := HQ.out; omega
    · have hlt1 : (k < n) = False := eq_false hlt
      have HKN : Hid (k = n) := hid (by omega)
      clear hlt hk0
      go_wp2_with fail
      go_ret
      exact ⟨g, rfl, by rw [HG.out]; exact Nat.le_refl _, by have h := HR.out; rw [HKN.out, rpL_full] at h; exact h, HB.out⟩
end Go.Proofs.Ytmllpednaibeeaa
namespace Go.Inc
open Go.RowKit
theorem own_of_heap {w : World} {B g n : Nat} {E : TypeId} {W : List Int} (h : w.heap[g]? = some (.cells (zvals W).toArray E (0, 0))) (hl : W.length = n) (hn : n ≤ 65536) (hb : B ≤ g) :
    w.ownsRow B E 1 (.slice (some ⟨g, 0, none⟩) n n) n (zvals W) :=
  ⟨by rw [zvals_len, hl, Nat.mul_one], .inr ⟨g, n, _, rfl, hb, h, Nat.le_refl _, by unfold maxLen; omega, by simp [zvals_len, hl], by rw [Nat.mul_one]; exact List.take_of_length_le (by simp [zvals_len, hl])⟩⟩
theorem So.ownedI {w : World} {B n : Nat} {v : Value} {l : List Int} {e : TypeId} (h : w.ownsRow B e 1 v n (zvals l)) : So (fun b => B ≤ b) w v l := by
  obtain ⟨a, c, h1, -, h3, h4, h5, h6⟩ := ownedZ h
  exact ⟨a, c, h1, h3, h4, h5, h6⟩
theorem zvals_set (l : List Int) (i : Nat) (z : Int) : (zvals l).set i (.int .i64 z) = zvals (l.set i z) := by simp [zvals, List.map_set]
theorem setZ_at {m : List Int} {u j : Nat} {b : Int} (hu : u < m.length) : (m.set u b).getD j 0 = if j = u then b else m.getD j 0 := by
  rw [List.getD_eq_getElem?_getD, List.getElem?_set]
  by_cases e : u = j
  · subst e; rw [if_pos rfl, if_pos hu, if_pos rfl]; rfl
  · rw [if_neg e, if_neg (fun h => e h.symm), List.getD_eq_getElem?_getD]
/-- Where the first t numbers stand, -1 for those that aren't among them. -/
def TnS (l : List Int) (t : Nat) (W : List Int) : Prop := W.length = l.length ∧ (∀ i, i < t → 0 ≤ l.getD i 0 ∧ l.getD i 0 < l.length ∧ W.getD (l.getD i 0).toNat 0 = (i : Int)) ∧ ∀ j, j < l.length → W.getD j 0 ≠ -1 → ∃ r, r < t ∧ l.getD r 0 = (j : Int)
theorem TnS.zero (l : List Int) : TnS l 0 (List.replicate l.length (-1)) := by
  refine ⟨List.length_replicate, fun i h => by omega, fun j hj hn => absurd ?_ hn⟩
  rw [List.getD_eq_getElem?_getD, List.getElem?_replicate, if_pos hj]; rfl
theorem TnS.far {l : List Int} {t : Nat} (ht : t < l.length) (h : l.getD t 0 < 0 ∨ (l.length : Int) ≤ l.getD t 0) : ¬ okT l := fun hok => by
  have := okT_in hok (getD_mem ht)
  omega
theorem TnS.twice {l W : List Int} {t q : Nat} (h : TnS l t W) (ht : t < l.length) (hq : l.getD t 0 = (q : Int)) (hql : q < l.length) (hw : W.getD q 0 ≠ -1) : ¬ okT l := fun hok => by
  obtain ⟨r, hr, he⟩ := h.2.2 q hql hw
  have h1 := at_is (okT_nodup hok) (i := r) (by omega) he
  have h2 := at_is (okT_nodup hok) ht hq
  omega
theorem TnS.step {l W : List Int} {t q : Nat} (h : TnS l t W) (hq : l.getD t 0 = (q : Int)) (hql : q < l.length) (hw : W.getD q 0 = -1) : TnS l (t + 1) (W.set q (t : Int)) := by
  obtain ⟨h1, h2, h3⟩ := h
  refine ⟨by rw [List.length_set]; exact h1, fun i hi => ?_, fun j hj hn => ?_⟩
  · by_cases e : i = t
    · subst e
      rw [hq]
      refine ⟨by omega, by omega, ?_⟩
      rw [Int.toNat_natCast, setZ_at (by omega), if_pos rfl]
    · have h4 := h2 i (by omega)
      refine ⟨h4.1, h4.2.1, ?_⟩
      rw [setZ_at (by omega), if_neg]
      · exact h4.2.2
      · intro e2
        rw [e2, hw] at h4
        omega
  · rw [setZ_at (by omega)] at hn
    by_cases e : j = q
    · subst e
      exact ⟨t, by omega, hq⟩
    · rw [if_neg e] at hn
      obtain ⟨r, hr, he⟩ := h3 j hj hn
      exact ⟨r, by omega, he⟩
theorem TnS.done {l W : List Int} (h : TnS l l.length W) : okT l ∧ W = zsN (tnT l) := by
  obtain ⟨h1, h2, -⟩ := h
  have hnd : l.Nodup := by
    rw [List.nodup_iff_pairwise_ne, List.pairwise_iff_getElem]
    intro i j hi hj hij e
    have a1 := (h2 i hi).2.2
    have a2 := (h2 j hj).2.2
    have e1 : l.getD i 0 = l.getD j 0 := by
      rw [List.getD_eq_getElem?_getD, List.getD_eq_getElem?_getD, List.getElem?_eq_getElem hi, List.getElem?_eq_getElem hj]
      exact e
    rw [e1, a2] at a1
    omega
  have hp := room_perm (r := l) (l := (List.range l.length).map fun n : Nat => (n : Int)) hnd (fun z hz => by
    obtain ⟨i, hi, rfl⟩ := List.mem_iff_getElem.1 hz
    have a1 := h2 i hi
    rw [List.getD_eq_getElem?_getD, List.getElem?_eq_getElem hi] at a1
    exact List.mem_map.2 ⟨l[i].toNat, List.mem_range.2 (by have := a1.1; have := a1.2.1; simp at *; omega), by have := a1.1; simp at *; omega⟩) (by simp)
  have hok : okT l := fun n hn => hp.mem_iff.1 (List.mem_map.2 ⟨n, List.mem_range.2 hn, rfl⟩)
  refine ⟨hok, ?_⟩
  apply List.ext_getElem (by rw [h1, zsN_len, tnT_len])
  intro j hj1 hj2
  have hj : j < l.length := by omega
  have h4 := at_get (hok j hj)
  have h5 := h2 _ h4.1
  rw [h4.2, Int.toNat_natCast] at h5
  have h6 := zsN_get (l := tnT l) j
  rw [tnT_get hj, ← h5.2.2] at h6
  rw [List.getD_eq_getElem?_getD, List.getElem?_eq_getElem hj2, List.getD_eq_getElem?_getD, List.getElem?_eq_getElem hj1] at h6
  exact h6.symm
end Go.Inc
namespace Go.Proofs.Ytmllpednaibeeaa
open Go.RowKit Go.Inc
/-- What Turned hands back. -/
def TnP (w : World) (zs : List Int) (e : Ending) (w' : World) : Prop := (∃ u k, e = .returned (.tuple #[u, .int .i64 k]) ∧ (okT zs → k = 0 ∧ So (fun g => w.heap.size ≤ g) w' u (zsN (tnT zs))) ∧ (¬ okT zs → k = 3 ∧ ∃ a c, u = .slice a 0 c)) ∧ Below w.heap.size w w'
set_option maxRecDepth 20000 in
set_option maxHeartbeats 2000000 in
theorem turned_any (ok : Nat → Prop) (x : World) (p : Option Addr) (c : Nat) (zs : List Int) (hs : Si ok x p zs) (hl : (zs.length : Int) ≤ 65536) :
    Calls Try.prog 28 #[.slice p zs.length c] x (TnP x zs) := by
  have HZ := hid (TnS.zero zs)
  have HS := hid hs
  have HFAR := hid (fun (t : Nat) h1 h2 => TnS.far (l := zs) (t := t) h1 h2)
  have HTW := hid (fun (W : List Int) (t q : Nat) h1 h2 h3 h4 h5 => TnS.twice (l := zs) (W := W) (t := t) (q := q) h1 h2 h3 h4 h5)
  have HST := hid (fun (W : List Int) (t q : Nat) h1 h2 h3 h4 => TnS.step (l := zs) (W := W) (t := t) (q := q) h1 h2 h3 h4)
  have HDN := hid (fun (W : List Int) h1 => TnS.done (l := zs) (W := W) h1)
  have HWL := hid (fun (W : List Int) (t : Nat) (h1 : TnS zs t W) => h1.1)
  obtain ⟨n, hn⟩ : ∃ n, n = zs.length := ⟨_, rfl⟩
  have HN := hid hn
  rw [← hn] at hl HZ HFAR HTW HST HDN HWL ⊢
  have HA := hid (allocU x (.cells #[.int .i64 (-1)] 3))
  have HRP := hid (repeat_any (x.alloc (.cells #[.int .i64 (-1)] 3)) x.heap.size n hl (by simp))
  clear hs hn
  go_enter Try.func28, Try.ntmps28
  go_wp2_with fail
  refine HRP.out.mono ?_
  rintro e w1 ⟨g, rfl, hg, hrow, hb⟩
  have HB1 := hid (HA.out.trans (hb.mono HA.out.size))
  have HG : Hid (x.heap.size ≤ g) := hid (by simp at hg; omega)
  have HR : Hid (w1.ownsRow x.heap.size 3 1 (.slice (some ⟨g, 0, none⟩) n n) n (zvals (List.replicate n (-1)))) := hid (own_of_heap hrow List.length_replicate (by omega) HG.out)
  clear HRP hg hrow hb HA
  go_wp2_with fail
  go_loopw [13] (fun i wr => ∃ (t : Nat) (W : List Int), t ≤ n ∧ i = .int .i64 (t : Int) ∧ TnS zs t W ∧ wr.ownsRow x.heap.size 3 1 (.slice (some ⟨g, 0, none⟩) n n) n (zvals W) ∧ Below x.heap.size x wr) (fun i _ => n - (intOf i).toNat)
  case atStart => exact ⟨0, _, Nat.zero_le _, rfl, HZ.out, HR.out, HB1.out⟩
  case round =>
    clear HR HB1 HZ
    obtain ⟨t, W, ht, rfl, htn, hr, hb⟩ := hrel
    have HT := hid htn
    have HR := hid hr
    have HB := hid hb
    clear htn hr hb
    by_cases hlt : t < n
    · have hti : (t < n) = True := eq_true hlt
      have HLT := hid hlt
      obtain ⟨pb, po, rfl, hc⟩ := siCell (HS.out.below HB.out) (k := t) (by have := HN.out; omega)
      have HF := hid (HFAR.out t hlt)
      have HTW2 := hid (fun q => HTW.out W t q HT.out hlt)
      have HST2 := hid (fun q => HST.out W t q HT.out)
      have HL := hid (HWL.out W t HT.out)
      generalize zs.getD t 0 = z at *
      clear hlt
      by_cases h1 : z < 0
      · have h1t : (z < 0) = True := eq_true h1
        have HNO := hid (HF.out (.inl h1))
        clear h1 HF HTW2 HST2
        go_wp2_with fail
        go_ret2
        exact ⟨⟨_, _, rfl, fun h => absurd h HNO.out, fun _ => ⟨rfl, _, _, rfl⟩⟩, HB.out⟩
      · have h1t : (z < 0) = False := eq_false h1
        by_cases h2 : (n : Int) ≤ z
        · have h2t : ((n : Int) ≤ z) = True := eq_true h2
          have HNO := hid (HF.out (.inr h2))
          clear h1 h2 HF HTW2 HST2
          go_wp2_with fail
          go_ret2
          exact ⟨⟨_, _, rfl, fun h => absurd h HNO.out, fun _ => ⟨rfl, _, _, rfl⟩⟩, HB.out⟩
        · obtain ⟨q, rfl⟩ : ∃ q : Nat, z = (q : Int) := ⟨z.toNat, by omega⟩
          have hqn : (q : Int) < (n : Int) := by omega
          have h2t : (n ≤ q) = False := eq_false (by omega)
          have h2u : ((n : Int) ≤ (q : Int)) = False := eq_false h2
          have HQ : Hid (q < n) := hid (by omega)
          have HTW3 := hid (HTW2.out q rfl HQ.out)
          have HST3 := hid (HST2.out q rfl HQ.out)
          have j1 : wr.cell? ⟨g, q, none⟩ = some (.int .i64 (W.getD q 0)) := by
            have h := HR.out.cells (g := g) rfl q _ (zvals_get (by rw [HL.out]; exact HQ.out))
            rw [Addr.add_lit] at h
            simpa using h
          have jf := HR.out.frozenAt q
          generalize W.getD q 0 = o at *
          clear h1 h2 HF HTW2 HST2
          by_cases ho : o = -1
          · subst ho
            have HNEW : Hid ((wr.setCell ⟨g, q, none⟩ (.int .i64 (t : Int))).ownsRow x.heap.size 3 1 (.slice (some ⟨g, 0, none⟩) n n) n (zvals (W.set q (t : Int))) ∧ Below x.heap.size x (wr.setCell ⟨g, q, none⟩ (.int .i64 (t : Int)))) := hid (by
              have h := HR.out.stored q (.int .i64 (t : Int))
              rw [zvals_set] at h
              exact ⟨h.1, below_grown HB.out h.2 HG.out HB.out.size⟩)
            have HTN := hid (HST3.out rfl)
            clear HTW3 HST3 HR HB HT
            go_wp2_with fail
            go_roundw
            case rel => exact ⟨t + 1, _, HLT.out, by go_num, HTN.out, HNEW.out.1, HNEW.out.2⟩
            case measure => simp [intOf]; have := HLT.out; omega
          · have hob : (o != -1) = true := by rw [bne_iff_ne]; exact ho
            have HNO := hid (HTW3.out ho)
            clear ho HTW3 HST3
            go_wp2_with fail
            go_ret2
            exact ⟨⟨_, _, rfl, fun h => absurd h HNO.out, fun _ => ⟨rfl, _, _, rfl⟩⟩, HB.out⟩
    · have hti : (t < n) = False := eq_false hlt
      obtain rfl : t = n := by omega
      have HD := hid (HDN.out W HT.out)
      have HSO := hid (So.ownedI HR.out)
      rw [HD.out.2] at HSO
      clear hlt
      go_wp2_with fail
      go_ret2
      exact ⟨⟨_, _, rfl, fun _ => ⟨rfl, HSO.out⟩, fun h => absurd HD.out.1 h⟩, HB.out⟩
theorem suTurned (ok : Nat → Prop) (w : World) (v : Value) (zs : List Int) (hs : So ok w v zs) (hl : zs.length ≤ 65536) (ho : okT zs) :
    Calls Try.prog 28 #[v] w (NewS w (zsN (tnT zs))) := by
  obtain ⟨a, c, rfl, hsi, -, -, -⟩ := hs
  refine (turned_any ok w a c zs hsi (by omega)).mono ?_
  rintro e w' ⟨⟨u, k, rfl, h1, -⟩, hb⟩
  obtain ⟨rfl, h2⟩ := h1 ho
  exact ⟨u, rfl, h2, hb⟩
theorem suTurnedBad (ok : Nat → Prop) (w : World) (v : Value) (zs : List Int) (hs : So ok w v zs) (hl : zs.length ≤ 65536) (ho : ¬ okT zs) :
    Calls Try.prog 28 #[v] w fun e w' => ∃ a c, e = .returned (.tuple #[.slice a 0 c, .int .i64 3]) ∧ Below w.heap.size w w' := by
  obtain ⟨a, c, rfl, hsi, -, -, -⟩ := hs
  refine (turned_any ok w a c zs hsi (by omega)).mono ?_
  rintro e w' ⟨⟨u, k, rfl, -, h1⟩, hb⟩
  obtain ⟨rfl, a, c, rfl⟩ := h1 ho
  exact ⟨a, c, rfl, hb⟩
end Go.Proofs.Ytmllpednaibeeaa
namespace Go.Inc
open Go.RowKit
/-- Is one place ahead of another one, as a right order has it? -/
def rtB (x : List Int) (P : List Nat) (a b : Nat) : Bool := if x.getD a 0 = x.getD b 0 then decide (P.getD (a + 1) 0 < P.getD (b + 1) 0) else decide (x.getD a 0 < x.getD b 0)
theorem same_in {x : List Int} (hr : RtL x) {a b : Nat} (ha : a < x.length) (hb : b < x.length) (hn : a ≠ b) (he : x.getD a 0 = x.getD b 0) : a + 1 < x.length ∧ b + 1 < x.length := by
  have h1 := hr.2 a ha
  have h2 := hr.2 b hb
  rw [he] at h1
  constructor
  · apply Classical.byContradiction
    intro hc
    have h3 := h2.1 (h1.2 (by omega))
    omega
  · apply Classical.byContradiction
    intro hc
    have h3 := h1.1 (h2.2 (by omega))
    omega
theorem okT_sr (x : List Int) : okT (zsN (srT x x.length)) := fun n hn => by
  rw [zsN_len, srT_len] at hn
  exact List.mem_map.2 ⟨n, srT_mem.2 hn, rfl⟩
/-- Where a place stands in an order of all places. -/
theorem pos_of {l : List Int} (h : okT l) {i : Nat} (hi : i < l.length) : ∃ a : Nat, l.getD i 0 = (a : Int) ∧ a < l.length ∧ (tnT l).getD a 0 = i := by
  have h1 := okT_in h (getD_mem hi)
  refine ⟨(l.getD i 0).toNat, by omega, by omega, ?_⟩
  rw [tnT_get (by omega), at_is (okT_nodup h) hi (by omega)]
theorem at_pos {l : List Int} (h : okT l) {a : Nat} (ha : a < l.length) : (tnT l).getD a 0 < l.length ∧ l.getD ((tnT l).getD a 0) 0 = (a : Int) := by
  rw [tnT_get ha]
  exact at_get (h a ha)
/-- In the order of the suffixes what is ahead is less, and the other way round. -/
theorem pos_sr {x : List Int} {a b : Nat} (ha : a < x.length) (hb : b < x.length) : lsT x a b = true ↔ (tnT (zsN (srT x x.length))).getD a 0 < (tnT (zsN (srT x x.length))).getD b 0 := by
  have hok := okT_sr x
  have hlen : (zsN (srT x x.length)).length = x.length := by rw [zsN_len, srT_len]
  have h1 := at_pos hok (a := a) (by omega)
  have h2 := at_pos hok (a := b) (by omega)
  have hs := srT_sorted (x := x) (Nat.le_refl _)
  rw [List.pairwise_iff_getElem] at hs
  generalize (tnT (zsN (srT x x.length))).getD a 0 = i at *
  generalize (tnT (zsN (srT x x.length))).getD b 0 = j at *
  have key : ∀ i j a b : Nat, i < x.length → j < x.length → (zsN (srT x x.length)).getD i 0 = (a : Int) → (zsN (srT x x.length)).getD j 0 = (b : Int) → i < j → lsT x a b = true := by
    intro i j a b hi hj e1 e2 hij
    have h3 := hs i j (by rw [srT_len]; exact hi) (by rw [srT_len]; exact hj) hij
    rw [zsN_get, List.getD_eq_getElem?_getD, List.getElem?_eq_getElem (by rw [srT_len]; exact hi)] at e1
    rw [zsN_get, List.getD_eq_getElem?_getD, List.getElem?_eq_getElem (by rw [srT_len]; exact hj)] at e2
    rw [← Int.ofNat.inj e1, ← Int.ofNat.inj e2]
    exact h3
  constructor
  · intro h
    apply Classical.byContradiction
    intro hc
    rcases Nat.lt_trichotomy i j with h4 | h4 | h4
    · exact hc h4
    · subst h4
      have : a = b := Int.ofNat.inj (h1.2.symm.trans h2.2)
      subst this
      rw [lsT_irrefl] at h; cases h
    · have := key j i b a (by omega) (by omega) h2.2 h1.2 h4
      rw [lsT_asymm this] at h; cases h
  · intro h
    exact key i j a b (by omega) (by omega) h1.2 h2.2 h
theorem rtB_sr {x : List Int} (hr : RtL x) {a b : Nat} (ha : a < x.length) (hb : b < x.length) (hn : a ≠ b) (h : lsT x a b = true) : rtB x (tnT (zsN (srT x x.length))) a b = true := by
  unfold rtB
  rcases (lsT_stepU ha hb).1 h with h1 | ⟨h1, h2⟩
  · rw [if_neg (by omega)]; exact decide_eq_true h1
  · rw [if_pos h1]
    have h3 := same_in hr ha hb hn h1
    exact decide_eq_true ((pos_sr h3.1 h3.2).1 h2)
/-- If each two neighbours stand right, it is the order of the suffixes. -/
theorem all_right {x l : List Int} (hr : RtL x) (hl : l.length = x.length) (hok : okT l) (h : ∀ i a b : Nat, i + 1 < l.length → l.getD i 0 = (a : Int) → l.getD (i + 1) 0 = (b : Int) → rtB x (tnT l) a b = true) : l = zsN (srT x x.length) := by
  have hnd := okT_nodup hok
  have hR : ∀ d i a b : Nat, i + d + 1 < l.length → l.getD i 0 = (a : Int) → l.getD (i + d + 1) 0 = (b : Int) → x.getD a 0 < x.getD b 0 ∨ (x.getD a 0 = x.getD b 0 ∧ (tnT l).getD (a + 1) 0 < (tnT l).getD (b + 1) 0) := by
    have one : ∀ i a b : Nat, i + 1 < l.length → l.getD i 0 = (a : Int) → l.getD (i + 1) 0 = (b : Int) → x.getD a 0 < x.getD b 0 ∨ (x.getD a 0 = x.getD b 0 ∧ (tnT l).getD (a + 1) 0 < (tnT l).getD (b + 1) 0) := by
      intro i a b h1 h2 h3
      have h4 := h i a b h1 h2 h3
      unfold rtB at h4
      split at h4
      · rename_i e; exact .inr ⟨e, of_decide_eq_true h4⟩
      · exact .inl (of_decide_eq_true h4)
    intro d
    induction d with
    | zero => exact fun i a b h1 h2 h3 => one i a b h1 h2 h3
    | succ d ih =>
      intro i a b h1 h2 h3
      obtain ⟨c, h4, -⟩ := pos_of hok (i := i + d + 1) (by omega)
      have h5 := ih i a c (by omega) h2 h4
      have h6 := one (i + d + 1) c b (by omega) h4 h3
      omega
  have hL : ∀ m a b : Nat, m = l.length - a → a < l.length → b < l.length → (tnT l).getD a 0 < (tnT l).getD b 0 → lsT x a b = true := by
    intro m
    induction m using Nat.strongRecOn with
    | ind m ih =>
      intro a b hm ha hb hp
      have h1 := at_pos hok ha
      have h2 := at_pos hok hb
      have h3 := hR ((tnT l).getD b 0 - (tnT l).getD a 0 - 1) ((tnT l).getD a 0) a b (by omega) h1.2 (by rw [show (tnT l).getD a 0 + ((tnT l).getD b 0 - (tnT l).getD a 0 - 1) + 1 = (tnT l).getD b 0 from by omega]; exact h2.2)
      rw [lsT_stepU (by omega) (by omega)]
      rcases h3 with h3 | ⟨h3, h4⟩
      · exact .inl h3
      · have hab : a ≠ b := fun e => by subst e; omega
        have h5 := same_in hr (by omega) (by omega) hab h3
        exact .inr ⟨h3, ih (l.length - (a + 1)) (by omega) (a + 1) (b + 1) rfl (by omega) (by omega) h4⟩
  have hsr : l.map Int.toNat = srT x x.length := by
    refine srT_is ?_ fun j => ?_
    · rw [List.pairwise_iff_getElem]
      intro i j hi hj hij
      rw [List.length_map] at hi hj
      obtain ⟨a, h1, h2, h3⟩ := pos_of hok hi
      obtain ⟨b, h4, h5, h6⟩ := pos_of hok hj
      rw [List.getElem_map, List.getElem_map]
      rw [List.getD_eq_getElem?_getD, List.getElem?_eq_getElem hi] at h1
      rw [List.getD_eq_getElem?_getD, List.getElem?_eq_getElem hj] at h4
      rw [show l[i] = (a : Int) from h1, show l[j] = (b : Int) from h4, Int.toNat_natCast, Int.toNat_natCast]
      exact hL _ a b rfl h2 h5 (by omega)
    · rw [List.mem_map]
      constructor
      · rintro ⟨z, hz, rfl⟩
        have := okT_in hok hz
        omega
      · intro hj
        exact ⟨(j : Int), hok j (by omega), by simp⟩
  rw [← hsr]
  apply List.ext_getElem (by simp [zsN])
  intro i h1 h2
  have := okT_in hok (List.getElem_mem h1)
  simp only [zsN, List.getElem_map]
  omega
theorem sr_right {x l : List Int} (hr : RtL x) (e : l = zsN (srT x x.length)) {i a b : Nat} (hi : i + 1 < l.length) (ha : l.getD i 0 = (a : Int)) (hb : l.getD (i + 1) 0 = (b : Int)) : rtB x (tnT l) a b = true := by
  subst e
  have hok := okT_sr x
  have hlen : (zsN (srT x x.length)).length = x.length := by rw [zsN_len, srT_len]
  obtain ⟨a', h1, h2, h3⟩ := pos_of hok (i := i) (by omega)
  obtain ⟨b', h4, h5, h6⟩ := pos_of hok (i := i + 1) hi
  obtain rfl : a' = a := Int.ofNat.inj (h1.symm.trans ha)
  obtain rfl : b' = b := Int.ofNat.inj (h4.symm.trans hb)
  have h7 : lsT x a' b' = true := (pos_sr (by omega) (by omega)).2 (by omega)
  exact rtB_sr hr (by omega) (by omega) (fun e => by subst e; omega) h7
theorem near_ne {l : List Int} (hok : okT l) {i a b : Nat} (hi : i + 1 < l.length) (ha : l.getD i 0 = (a : Int)) (hb : l.getD (i + 1) 0 = (b : Int)) : a ≠ b := fun e => by
  subst e
  have h1 := at_is (okT_nodup hok) (i := i) (by omega) ha
  have h2 := at_is (okT_nodup hok) hi hb
  omega
end Go.Inc
namespace Go.Proofs.Ytmllpednaibeeaa
open Go.RowKit Go.Inc
set_option maxRecDepth 20000 in
set_option maxHeartbeats 2000000 in
theorem rless_any (y : World) (b1 b2 pb po qb qo n c c' : Nat) (zs : List Int) (P : List Nat) (a b : Nat) (hn : (n : Int) ≤ 65536) (ha : a < n) (hb : b < n)
    (h1 : y.cell? ⟨b1, 0, none⟩ = some (.slice (some ⟨pb, po, none⟩) n c)) (h2 : y.cell? ⟨b2, 0, none⟩ = some (.slice (some ⟨qb, qo, none⟩) n c'))
    (hz : ∀ i, i < n → y.cell? ⟨pb, po + i, none⟩ = some (.int .i64 (zs.getD i 0))) (hp : ∀ i, i < n → y.cell? ⟨qb, qo + i, none⟩ = some (.int .i64 ((P.getD i 0 : Nat) : Int))) (hs : zs.getD a 0 = zs.getD b 0 → a + 1 < n ∧ b + 1 < n) :
    Calls Try.prog 47 #[.int .i64 (a : Int), .int .i64 (b : Int), .pointer (some ⟨b1, 0, none⟩), .pointer (some ⟨b2, 0, none⟩)] y fun e w' => e = .returned (.bool (rtB zs P a b)) ∧ ∃ q, w' = y.drewN q := by
  have hc1 := hz a ha
  have hc2 := hz b hb
  have HZ := hid hz
  have HP := hid hp
  have HS := hid hs
  have hai : (a : Int) < (n : Int) := by omega
  have hbi : (b : Int) < (n : Int) := by omega
  obtain ⟨a1, ha1⟩ : ∃ a1 : Nat, (a : Int) + 1 = (a1 : Int) := ⟨a + 1, by omega⟩
  obtain ⟨b1', hb1⟩ : ∃ b1' : Nat, (b : Int) + 1 = (b1' : Int) := ⟨b + 1, by omega⟩
  have HA1 : Hid (a + 1 = a1) := hid (by omega)
  have HB1 : Hid (b + 1 = b1') := hid (by omega)
  have HR : Hid (rtB zs P a b = if zs.getD a 0 = zs.getD b 0 then decide (P.getD a1 0 < P.getD b1' 0) else decide (zs.getD a 0 < zs.getD b 0)) := hid (by rw [← HA1.out, ← HB1.out]; rfl)
  rw [HA1.out, HB1.out] at HS
  generalize zs.getD a 0 = z at *
  generalize zs.getD b 0 = z' at *
  clear hz hp hs
  by_cases he : z = z'
  · have h3 := HS.out he
    have hp1 := HP.out a1 h3.1
    have hp2 := HP.out b1' h3.2
    have hai1 : (a1 : Int) < (n : Int) := by omega
    have hbi1 : (b1' : Int) < (n : Int) := by omega
    rw [if_pos he] at HR
    have hbe : (z != z') = false := by rw [bne_eq_false_iff_eq]; exact he
    generalize P.getD a1 0 = r at *
    generalize P.getD b1' 0 = r' at *
    by_cases hrr : r < r'
    · have hrt : (r < r') = True := eq_true hrr
      rw [decide_eq_true hrr] at HR
      clear he h3 hrr HS
      go_enter Try.func47, Try.ntmps47
      go_wp2_with fail
      go_quiet (fail)
      go_wp2_with fail
      go_quiet (fail)
      go_wp2_with fail
      go_ret
      exact ⟨by rw [HR.out]; rfl, _, World.drewN_drewN ..⟩
    · have hrt : (r < r') = False := eq_false hrr
      rw [decide_eq_false hrr] at HR
      clear he h3 hrr HS
      go_enter Try.func47, Try.ntmps47
      go_wp2_with fail
      go_quiet (fail)
      go_wp2_with fail
      go_quiet (fail)
      go_wp2_with fail
      go_ret
      exact ⟨by rw [HR.out]; rfl, _, World.drewN_drewN ..⟩
  · have hbe : (z != z') = true := by rw [bne_iff_ne]; exact he
    rw [if_neg he] at HR
    clear he HS
    go_enter Try.func47, Try.ntmps47
    go_wp2_with fail
    go_quiet (fail)
    go_wp2_with fail
    go_quiet (fail)
    go_wp2_with fail
    go_ret
    exact ⟨by rw [HR.out]; rfl, _, World.drewN_drewN ..⟩
set_option maxRecDepth 20000 in
set_option maxHeartbeats 2000000 in
theorem right_any (ok ok' : Nat → Prop) (x : World) (p p' : Option Addr) (c c' : Nat) (zs ls : List Int) (hs : Si ok x p zs) (hs' : Si ok' x p' ls) (hr : RtL zs) (hl : (zs.length : Int) ≤ 65536) (hl' : (ls.length : Int) ≤ 65536) (hzc : zs.length ≤ c) (hlc : ls.length ≤ c') :
    Calls Try.prog 31 #[.slice p zs.length c, .slice p' ls.length c'] x fun e w' => e = .returned (.bool (decide (ls = zsN (srT zs zs.length)))) ∧ Below x.heap.size x w' := by
  have HS' := hid hs'
  obtain ⟨n, hn⟩ : ∃ n, n = zs.length := ⟨_, rfl⟩
  obtain ⟨m, hm⟩ : ∃ m, m = ls.length := ⟨_, rfl⟩
  have HA := hid (allocU x (.cells #[.slice p n c] 22))
  have HTN := hid (turned_any ok' (x.alloc (.cells #[.slice p n c] 22)) p' c' ls (hs'.below HA.out) hl')
  rw [← hm] at HTN ⊢
  have HN := hid hn
  have HM := hid hm
  have HZC := hid hzc
  have HLC := hid hlc
  have HS := hid hs
  have HR := hid hr
  rw [← hn] at hzc hl ⊢
  rw [← hm] at hlc hl'
  clear hn hm hs hs' hr
  go_enter Try.func31, Try.ntmps31
  go_wp2_with fail
  refine HTN.out.mono ?_
  rintro e w1 ⟨⟨u, k, rfl, hgood, hbad⟩, hb1⟩
  by_cases hok : okT ls
  · obtain ⟨rfl, hso⟩ := hgood hok
    obtain ⟨a2, c2, rfl, hsi2, hlc2, hcm2, -⟩ := hso
    have HLEN : Hid ((zsN (tnT ls)).length = m) := hid (by rw [zsN_len, tnT_len]; exact HM.out.symm)
    rw [HLEN.out] at hlc2 ⊢
    obtain ⟨w2, hw2⟩ : ∃ w2, w2 = w1.alloc (.cells #[.slice a2 m c2] 22) := ⟨_, rfl⟩
    obtain ⟨g1, hg1⟩ : ∃ g1, g1 = x.heap.size := ⟨_, rfl⟩
    obtain ⟨g2, hg2⟩ : ∃ g2, g2 = w1.heap.size := ⟨_, rfl⟩
    have HB1 : Hid (Below x.heap.size x w1) := hid (HA.out.trans (hb1.mono HA.out.size))
    have HB12 := hid (allocU w1 (.cells #[.slice a2 m c2] 22))
    rw [← hw2] at HB12
    have HB2 : Hid (Below x.heap.size x w2) := hid (HB1.out.trans (HB12.out.mono HB1.out.size))
    have k1 : w1.cell? ⟨g1, 0, none⟩ = some (.slice p n c) := by
      have h0 : (x.alloc (.cells #[.slice p n c] 22)).cell? ⟨g1, 0, none⟩ = some (.slice p n c) := by rw [hg1]; simp
      rw [World.cell?_of_block (hb1.block g1 (cell_lt h0))]; exact h0
    have hk1 : w2.cell? ⟨g1, 0, none⟩ = some (.slice p n c) := by rw [World.cell?_of_block (HB12.out.block g1 (cell_lt k1))]; exact k1
    have hk2 : w2.cell? ⟨g2, 0, none⟩ = some (.slice a2 m c2) := by rw [hw2, hg2]; simp
    have HW2 := hid hw2
    have HG1 := hid hg1
    have HG2 := hid hg2
    have HSI2 := hid (hsi2.below HB12.out)
    have HOK := hid hok
    have hc2b : (c2 : Int) ≤ 9223372036854775807 := by unfold maxLen at hcm2; omega
    clear hgood hbad hb1 hw2 hg1 hg2 k1 hsi2 hok hcm2 HTN HB1 HB12
    go_upto_region 2 with fail
    rw [← HW2.out, ← HG1.out, ← HG2.out]
    clear HW2
    by_cases hmn : m = n
    · have hne : ((m : Int) != (n : Int)) = false := by rw [bne_eq_false_iff_eq]; omega
      have HMN := hid hmn
      have h0 : 0 < n := by rw [HN.out]; exact HR.out.1
      obtain ⟨pb, po, rfl, hz⟩ : ∃ pb po, p = some ⟨pb, po, none⟩ ∧ ∀ y, Below w2.heap.size w2 y → ∀ i, i < n → y.cell? ⟨pb, po + i, none⟩ = some (.int .i64 (zs.getD i 0)) := by
        rcases HS.out.below HB2.out with h | ⟨b, o, h, -, hc⟩
        · have := HN.out; rw [h] at this; simp at this; omega
        · refine ⟨b, o, h, fun y hy i hi => ?_⟩
          have h1 := hc i (by rw [← HN.out]; exact hi)
          rw [World.cell?_of_block (hy.block b (cell_lt h1))]; exact h1
      obtain ⟨qb, qo, rfl, hp⟩ : ∃ pb po, a2 = some ⟨pb, po, none⟩ ∧ ∀ y, Below w2.heap.size w2 y → ∀ i, i < n → y.cell? ⟨pb, po + i, none⟩ = some (.int .i64 (((tnT ls).getD i 0 : Nat) : Int)) := by
        rcases HSI2.out with h | ⟨b, o, h, -, hc⟩
        · have := HLEN.out; rw [h] at this; simp at this; omega
        · refine ⟨b, o, h, fun y hy i hi => ?_⟩
          have h1 := hc i (by rw [HLEN.out]; omega)
          rw [zsN_get] at h1
          rw [World.cell?_of_block (hy.block b (cell_lt h1))]; exact h1
      obtain ⟨rb, ro, rfl, ho⟩ : ∃ pb po, p' = some ⟨pb, po, none⟩ ∧ ∀ y, Below w2.heap.size w2 y → ∀ i, i < n → y.cell? ⟨pb, po + i, none⟩ = some (.int .i64 (ls.getD i 0)) := by
        rcases HS'.out.below HB2.out with h | ⟨b, o, h, -, hc⟩
        · have := HM.out; rw [h] at this; simp at this; omega
        · refine ⟨b, o, h, fun y hy i hi => ?_⟩
          have h1 := hc i (by rw [← HM.out]; omega)
          rw [World.cell?_of_block (hy.block b (cell_lt h1))]; exact h1
      have HLS : Hid (∀ y, Below w2.heap.size w2 y → ∀ a b : Nat, a < n → b < n → a ≠ b → ∀ j, Calls Try.prog 47 #[.int .i64 (a : Int), .int .i64 (b : Int), .pointer (some ⟨g1, 0, none⟩), .pointer (some ⟨g2, 0, none⟩)] (y.drewN j) fun e w' => e = .returned (.bool (rtB zs (tnT ls) a b)) ∧ ∃ q, w' = y.drewN q) := hid (fun y hy a b ha hb hab j => Calls.quiet_of (by
        have hyj : Below w2.heap.size w2 (y.drewN j) := hy.trans ((below_drewN y j).mono hy.size)
        have e1 : (y.drewN j).cell? ⟨g1, 0, none⟩ = some (.slice (some ⟨pb, po, none⟩) n c) := by rw [World.cell?_of_block (hyj.block g1 (cell_lt hk1))]; exact hk1
        have e2 : (y.drewN j).cell? ⟨g2, 0, none⟩ = some (.slice (some ⟨qb, qo, none⟩) n c2) := by rw [World.cell?_of_block (hyj.block g2 (cell_lt hk2)), ← HMN.out]; exact hk2
        exact rless_any (y.drewN j) g1 g2 pb po qb qo n c c2 zs (tnT ls) a b hl ha hb e1 e2 (hz _ hyj) (hp _ hyj) (fun he => by
          have := same_in HR.out (a := a) (b := b) (by have := HN.out; omega) (by have := HN.out; omega) hab he
          have := HN.out; omega)))
      have HO := hid ho
      have HPO := hid (fun (i : Nat) (hi : i < n) => pos_of HOK.out (i := i) (by have := HM.out; omega))
      have HBAD := hid (fun (i a b : Nat) (hi : i + 1 < n) e1 e2 (hb : rtB zs (tnT ls) a b = false) => show decide (ls = zsN (srT zs n)) = false from decide_eq_false (fun e => by
        have := sr_right HR.out (l := ls) (by rw [e, HN.out]) (i := i) (a := a) (b := b) (by have := HM.out; omega) e1 e2
        rw [hb] at this; cases this))
      have HALL := hid (fun (h : ∀ i a b : Nat, i + 1 < n → ls.getD i 0 = (a : Int) → ls.getD (i + 1) 0 = (b : Int) → rtB zs (tnT ls) a b = true) => show decide (ls = zsN (srT zs n)) = true from decide_eq_true (by
        rw [HN.out]
        exact all_right HR.out (by have := HN.out; have := HM.out; omega) HOK.out (fun i a b hi => h i a b (by have := HM.out; omega))))
      have HNE := hid (fun (i a b : Nat) (hi : i + 1 < n) e1 e2 => near_ne HOK.out (i := i) (a := a) (b := b) (by have := HM.out; omega) e1 e2)
      subst hmn
      clear hz hp ho hlc2 HSI2 hl' hlc
      go_wp2_with fail
      go_loopw [8] (fun i wr => ∃ t : Nat, t + 1 ≤ m ∧ i = .int .i64 ((t : Int) + 1) ∧ (∀ i a b : Nat, i + 1 < t + 1 → ls.getD i 0 = (a : Int) → ls.getD (i + 1) 0 = (b : Int) → rtB zs (tnT ls) a b = true) ∧ Below w2.heap.size w2 wr) (fun i _ => m - (intOf i).toNat)
      case atStart => exact ⟨0, h0, rfl, fun i a b h => by omega, Below.refl _ _⟩
      case round =>
        clear hk1 hk2
        obtain ⟨t, ht, rfl, hal, hb⟩ := hrel
        have HAL := hid hal
        have HB := hid hb
        have htb : (t : Int) ≤ 65536 := by omega
        clear hal hb
        obtain ⟨t1, ht1⟩ : ∃ t1 : Nat, (t : Int) + 1 = (t1 : Int) := ⟨t + 1, by omega⟩
        have HT1 : Hid (t1 = t + 1) := hid (by omega)
        have htt : (t1 : Int) - 1 = (t : Int) := by omega
        have ht1b : (t1 : Int) ≤ 65537 := by omega
        rw [ht1]
        by_cases hlt : t1 < m
        · have hlt1 : (t1 < m) = True := eq_true hlt
          have HLT := hid hlt
          obtain ⟨a, ha1, ha2, -⟩ := HPO.out t (by omega)
          obtain ⟨b, hb1, hb2, -⟩ := HPO.out t1 hlt
          have ho1 := HO.out wr HB.out t (by omega)
          have ho2 := HO.out wr HB.out t1 hlt
          have HEQ := hid (And.intro ha1 hb1)
          have HAB := hid (HNE.out t a b (by rw [← HT1.out]; exact hlt) ha1 (by rw [← HT1.out]; exact hb1))
          rw [ha1] at ho1
          rw [hb1] at ho2
          have l1 := HLS.out wr HB.out a b (by have := HM.out; omega) (by have := HM.out; omega) HAB.out
          obtain ⟨q, hq⟩ : ∃ q, q = rtB zs (tnT ls) a b := ⟨_, rfl⟩
          rw [← hq] at l1
          have HQ := hid hq
          have htm : (t : Int) < (m : Int) := by omega
          have ht1m : (t1 : Int) < (m : Int) := by omega
          clear hlt ha1 ha2 hb1 hb2 hq
          cases q
          · go_wp2_with fail
            go_quiet (with_reducible exact l1 _)
            go_wp2_with fail
            go_ret
            exact ⟨by rw [HBAD.out t a b (by have := HT1.out; have := HLT.out; omega) HEQ.out.1 (by rw [← HT1.out]; exact HEQ.out.2) HQ.out.symm]; rfl, HB2.out.trans ((HB.out.trans ((below_drewN _ _).mono HB.out.size)).mono HB2.out.size)⟩
          · go_wp2_with fail
            go_quiet (with_reducible exact l1 _)
            go_wp2_with fail
            go_roundw
            case rel => exact ⟨t1, by have := HLT.out; omega, by go_num, fun i a' b' hi e1 e2 => (by
              by_cases e : i = t
              · subst e
                obtain rfl : a' = a := Int.ofNat.inj (e1.symm.trans HEQ.out.1)
                obtain rfl : b' = b := Int.ofNat.inj (e2.symm.trans (by rw [← HT1.out]; exact HEQ.out.2))
                exact HQ.out.symm
              · exact HAL.out i a' b' (by have := HT1.out; omega) e1 e2), HB.out.trans ((below_drewN _ _).mono HB.out.size)⟩
            case measure => simp [intOf]; have := HLT.out; omega
        · have hlt1 : (t1 < m) = False := eq_false hlt
          have HD := hid (HALL.out (fun i a b hi e1 e2 => HAL.out i a b (by have := HT1.out; omega) e1 e2))
          clear hlt
          go_wp2_with fail
          go_ret
          exact ⟨by rw [HD.out]; rfl, HB2.out.trans (HB.out.mono HB2.out.size)⟩
    · have hne : ((m : Int) != (n : Int)) = true := by rw [bne_iff_ne]; omega
      have HNO : Hid (decide (ls = zsN (srT zs n)) = false) := hid (decide_eq_false (fun e => by
        have h1 := congrArg List.length e
        rw [zsN_len, HN.out, srT_len] at h1
        have := HN.out; have := HM.out; omega))
      clear hmn HSI2
      go_wp2_with fail
      go_ret
      exact ⟨by rw [HNO.out]; rfl, HB2.out⟩
  · obtain ⟨rfl, a2, c2, rfl⟩ := hbad hok
    have HNO : Hid (decide (ls = zsN (srT zs n)) = false) := hid (decide_eq_false (fun e => hok (by rw [e, HN.out]; exact okT_sr zs)))
    have HB1 : Hid (Below x.heap.size x w1) := hid (HA.out.trans (hb1.mono HA.out.size))
    have HB2 : Hid (Below x.heap.size x (w1.alloc (.cells #[.slice a2 0 c2] 22))) := hid (HB1.out.trans ((allocU w1 _).mono HB1.out.size))
    clear hgood hbad hok hb1 HTN
    go_wp2_with fail
    go_ret
    exact ⟨by rw [HNO.out]; rfl, HB2.out⟩
end Go.Proofs.Ytmllpednaibeeaa
namespace Go.Proofs.Ytmllpednaibeeaa
open Go.RowKit Go.Inc
set_option maxRecDepth 20000 in
set_option maxHeartbeats 1500000 in
theorem suRight (ok ok' : Nat → Prop) (w : World) (v v' : Value) (zs ls : List Int) (hs : So ok w v zs) (hs' : So ok' w v' ls) (hl : zs.length ≤ 65536) (hz : ∀ z ∈ zs, i64s z) (hl' : ls.length ≤ 65536) :
    Calls Try.prog 15 #[v, v'] w fun e w' => e = .returned (.bool (decide (ckT zs = 0 ∧ ls = zsN (srT zs zs.length)))) ∧ Below w.heap.size w w' := by
  have HC := hid (check_any ok w v zs hs hl hz)
  by_cases hk : ckT zs = 0
  · obtain ⟨a, c, rfl, hsi, hlc, -, -⟩ := hs
    obtain ⟨a', c', rfl, hsi', hlc', -, -⟩ := hs'
    have HR := hid (right_any ok ok' w a a' c c' zs ls hsi hsi' (ckT_zero hk).2.2 (by omega) (by omega) hlc hlc')
    have HD : Hid (decide (ckT zs = 0 ∧ ls = zsN (srT zs zs.length)) = decide (ls = zsN (srT zs zs.length))) := hid (by simp [hk])
    obtain ⟨q, hq⟩ : ∃ q, q = decide (ls = zsN (srT zs zs.length)) := ⟨_, rfl⟩
    rw [← hq] at HR HD
    rw [hk] at HC
    obtain ⟨q2, hq2⟩ : ∃ q2, q2 = decide (ckT zs = 0 ∧ ls = zsN (srT zs zs.length)) := ⟨_, rfl⟩
    rw [← hq2] at HD ⊢
    obtain ⟨n, hn⟩ : ∃ n, n = zs.length := ⟨_, rfl⟩
    obtain ⟨m, hm⟩ : ∃ m, m = ls.length := ⟨_, rfl⟩
    rw [← hn] at HC HR ⊢
    rw [← hm] at HR ⊢
    clear hsi hsi' hlc hlc' hl hl' hz hk hq hq2 hn hm
    go_enter Try.func15, Try.ntmps15
    go_wp2_with fail
    refine HC.out.mono ?_
    rintro e w' ⟨rfl, rfl⟩
    clear HC
    go_wp2_with fail
    refine HR.out.mono ?_
    rintro e w1 ⟨rfl, hb⟩
    have HB := hid hb
    clear hb HR
    go_wp2_with fail
    go_ret
    exact ⟨by rw [HD.out]; rfl, HB.out⟩
  · have HD : Hid (decide (ckT zs = 0 ∧ ls = zsN (srT zs zs.length)) = false) := hid (by simp [hk])
    obtain ⟨q2, hq2⟩ : ∃ q2, q2 = decide (ckT zs = 0 ∧ ls = zsN (srT zs zs.length)) := ⟨_, rfl⟩
    rw [← hq2] at HD ⊢
    obtain ⟨k, hkk⟩ : ∃ k, k = ckT zs := ⟨_, rfl⟩
    rw [← hkk] at HC hk
    have hk0 : ((k : Int) == 0) = false := by rw [beq_eq_false_iff_ne]; omega
    clear hs hs' hl hl' hz hk hq2 hkk
    go_enter Try.func15, Try.ntmps15
    go_wp2_with fail
    refine HC.out.mono ?_
    rintro e w' ⟨rfl, rfl⟩
    clear HC
    go_wp2_with fail
    go_ret
    exact ⟨by rw [HD.out]; rfl, Below.refl _ _⟩
end Go.Proofs.Ytmllpednaibeeaa
namespace Go.Inc
open Go.RowKit
/-- Where a place stands in the order. -/
def psT (x : List Int) (p : Nat) : Nat := (tnT (zsN (srT x x.length))).getD p 0
/-- The place ahead of a place. -/
def prT (x : List Int) (p : Nat) : Nat := (srT x x.length).getD (psT x p - 1) 0
theorem psT_at {x : List Int} {p : Nat} (h : p < x.length) : psT x p < x.length ∧ (srT x x.length).getD (psT x p) 0 = p := by
  have hlen : (zsN (srT x x.length)).length = x.length := by rw [zsN_len, srT_len]
  have h1 := at_pos (okT_sr x) (a := p) (by omega)
  rw [zsN_get] at h1
  unfold psT
  exact ⟨by omega, Int.ofNat.inj h1.2⟩
theorem psT_of {x : List Int} {i : Nat} (h : i < x.length) : (srT x x.length).getD i 0 < x.length ∧ psT x ((srT x x.length).getD i 0) = i := by
  have hlen : (zsN (srT x x.length)).length = x.length := by rw [zsN_len, srT_len]
  obtain ⟨a, h1, h2, h3⟩ := pos_of (okT_sr x) (i := i) (by omega)
  rw [zsN_get] at h1
  have e : (srT x x.length).getD i 0 = a := Int.ofNat.inj h1
  rw [e]
  exact ⟨by omega, h3⟩
theorem psT_pos {x : List Int} (hk : ckT x = 0) {p : Nat} (h : p + 1 < x.length) : 0 < psT x p := by
  apply Classical.byContradiction
  intro hc
  have h1 := psT_at (x := x) (p := p) (by omega)
  rw [show psT x p = 0 from by omega, srT_head hk] at h1
  omega
/-- What is told of the rows of the first t places. -/
def CmS (x : List Int) (t : Nat) (C : List Nat) : Prop := C.length = x.length ∧ C.getD 0 0 = 0 ∧ ∀ p, p < t → C.getD (psT x p) 0 = cmT x (prT x p) p
theorem CmS.zero (x : List Int) : CmS x 0 (List.replicate x.length 0) := by
  refine ⟨List.length_replicate, ?_, fun p h => by omega⟩
  rw [List.getD_eq_getElem?_getD, List.getElem?_replicate]
  split <;> rfl
theorem setN_at {m : List Nat} {u j b : Nat} (hu : u < m.length) : (m.set u b).getD j 0 = if j = u then b else m.getD j 0 := by
  rw [List.getD_eq_getElem?_getD, List.getElem?_set]
  by_cases e : u = j
  · subst e; rw [if_pos rfl, if_pos hu, if_pos rfl]; rfl
  · rw [if_neg e, if_neg (fun h => e h.symm), List.getD_eq_getElem?_getD]
theorem CmS.step {x : List Int} {C : List Nat} {t : Nat} (hk : ckT x = 0) (h : CmS x t C) (ht : t + 1 < x.length) : CmS x (t + 1) (C.set (psT x t) (cmT x (prT x t) t)) := by
  obtain ⟨h1, h2, h3⟩ := h
  have h0 := psT_pos hk ht
  have h4 := psT_at (x := x) (p := t) (by omega)
  refine ⟨by rw [List.length_set]; exact h1, by rw [setN_at (by omega), if_neg (by omega)]; exact h2, fun p hp => ?_⟩
  rw [setN_at (by omega)]
  by_cases e : p = t
  · subst e; rw [if_pos rfl]
  · rw [if_neg (fun e2 => e (by
      have h5 := (psT_at (x := x) (p := p) (by omega)).2
      rw [e2, h4.2] at h5
      exact h5.symm))]
    exact h3 p (by omega)
theorem CmS.done {x : List Int} {C : List Nat} (hk : ckT x = 0) (h : CmS x (x.length - 1) C) : C = cmsT x (srT x x.length) := by
  obtain ⟨h1, h2, h3⟩ := h
  have h0 := (ckT_zero hk).2.2.1
  apply List.ext_getElem (by unfold cmsT; simp [h1, srT_len])
  intro i hi1 hi2
  have hin : i < x.length := by omega
  simp only [cmsT, List.getElem_map, List.getElem_range]
  have e1 : C.getD i 0 = C[i] := by rw [List.getD_eq_getElem?_getD, List.getElem?_eq_getElem hi1]; rfl
  rw [← e1]
  by_cases e : i = 0
  · subst e; rw [if_pos rfl]; exact h2
  · rw [if_neg e]
    have h4 := psT_of (x := x) hin
    have h5 : (srT x x.length).getD i 0 + 1 < x.length := by
      apply Classical.byContradiction
      intro hc
      have h6 := psT_of (x := x) h0
      rw [srT_head hk] at h6
      rw [show (srT x x.length).getD i 0 = x.length - 1 from by omega, h6.2] at h4
      omega
    have h6 := h3 _ (show (srT x x.length).getD i 0 < x.length - 1 by omega)
    rw [h4.2] at h6
    rw [h6]
    unfold prT
    rw [h4.2]
end Go.Inc
namespace Go.Proofs.Ytmllpednaibeeaa
open Go.RowKit Go.Inc
end Go.Proofs.Ytmllpednaibeeaa
namespace Go.Inc
open Go.RowKit
theorem fsT_lt {x : List Int} : ∀ {n a : Nat}, a ∈ fsT x n → a < n
  | 0, _, h => by cases h
  | n + 1, a, h => by
    rw [fsT_succ] at h
    split at h
    · rcases List.mem_append.1 h with h | h
      · have := fsT_lt h; omega
      · rw [List.mem_singleton] at h; omega
    · have := fsT_lt h; omega
theorem fsZ_rise {x : List Int} : ∀ n, (zsN (fsT x n)).Pairwise (· < ·)
  | 0 => List.Pairwise.nil
  | n + 1 => by
    rw [fsT_succ]
    split
    · unfold zsN
      rw [List.map_append, List.pairwise_append]
      refine ⟨fsZ_rise n, List.pairwise_singleton _ _, fun a ha b hb => ?_⟩
      obtain ⟨k, hk, rfl⟩ := List.mem_map.1 ha
      obtain ⟨m, hm, rfl⟩ := List.mem_map.1 hb
      rw [List.mem_singleton] at hm
      have := fsT_lt hk
      omega
    · exact fsZ_rise n
end Go.Inc
namespace Go.Proofs.Ytmllpednaibeeaa
open Go.RowKit Go.Inc
set_option maxRecDepth 20000 in
set_option maxHeartbeats 1500000 in
theorem cloneZ_any (ok : Nat → Prop) (w : World) (ad : Addr) (n c : Nat) (zs : List Int) (hs : Si ok w (some ad) zs) (hn : n = zs.length) (hl : n ≤ 65536) :
    Calls Try.prog 32 #[.slice (some ad) n c] w fun e w' => ∃ u, e = .returned u ∧ So (fun g => w.heap.size ≤ g) w' u zs ∧ Below w.heap.size w w' := by
  have hb1 : Below w.heap.size w (w.alloc (.cells #[] 3)) := allocU w _
  have HC : Hid (∀ a, (some ad : Option Addr) = some a → ∀ j u, (zvals zs)[j]? = some u → (w.alloc (.cells #[] 3)).cell? (a.add j) = some u) := hid fun a ha j u hu => by
    cases ha
    have hj : j < zs.length := by
      have := (List.getElem?_eq_some_iff.1 hu).1
      simpa [zvals] using this
    rw [zvals_get hj] at hu
    cases hu
    rcases hs.below hb1 with h | ⟨b, o, h, -, hc⟩
    · rw [h] at hj; simp at hj
    · cases h
      rw [Addr.add_lit]; exact hc j hj
  have hown : Hid ((w.alloc (.cells #[] 3)).ownsRow w.heap.size 3 1 (.slice (some ⟨w.heap.size, 0, none⟩) 0 0) 0 (zvals [])) := hid (World.ownsRow_lit w #[] 0 (Nat.le_refl _) (Nat.zero_le _) rfl)
  have HB1 := hid hb1
  have HN := hid hn
  have hq := fun w a l c => Go.Lib.run_eql_slice_nil (P := Try.prog) w 22 3 a l c 0 0 Try.underlying22
  clear hs hb1 hn
  go_enter Try.func32, Try.ntmps32
  go_wp2_with (refine wpList_append_any rfl (.tmp 5) (.tmp 6) 22 rfl w.heap.size 3 (.int .i64 0) 8 Try.underlying22 infoIntS rfl _ 0 (zvals []) rfl hown.out (some ad) n c (zvals zs) rfl (by rw [zvals_len]; exact HN.out.symm) (by intro h; cases h) HC.out (zvals_one zs) (by unfold maxLen; omega) (by omega) (by simp) ?_)
  intro v w2 hv hg _
  have hb2 := below_owned HB1.out hown.out (Nat.le_refl _) hg
  have HV : Hid (So (fun g => w.heap.size ≤ g) w2 v zs) := hid (So.ownedI hv)
  clear hv hg
  go_wp2_with fail
  go_ret
  exact ⟨_, rfl, HV.out, hb2⟩
end Go.Proofs.Ytmllpednaibeeaa
