/- CONTRACTS: is a bit behind the last one 1; a bit laid; a row of zeros; bytes laid. -/
import Derived.Test.YtjcapiibeekfkaaRnA
namespace Go.Proofs.Ytjcapiibeekfkaa
open Go.RowKit Go.Inc

theorem mixedP : Try.prog.follows .mixedOrders = true := by kernel_rfl
def hmB (n : Nat) (W : List Nat) : Bool := decide (0 < n % 64 ∧ W.getD (n / 64) 0 / 2 ^ (n % 64) ≠ 0)
set_option maxRecDepth 20000 in
theorem rHasMore_any (x : World) (b n d k all : Nat) (v vb vw : Value) (W D E : List Nat) (h : RwR x b n v W d k vb vw D E all) (hl : W.length = (n + 63) / 64) (hlt : ∀ y ∈ W, y < 18446744073709551616) (hn : n ≤ 65536) :
    Calls Try.prog 40 #[.pointer (some ⟨b, 0, none⟩)] x fun e w' => e = .returned (.bool (hmB n W)) ∧ ∃ j, w' = x.drewN j := by
  have k0 := h.c0
  have k1 := h.c1
  have hnb : (n : Int) ≤ 65536 := by omega
  by_cases h0 : n % 64 = 0
  · have HR : Hid (hmB n W = false) := hid (by unfold hmB; rw [h0]; simp)
    have hoi : (n : Int) % 64 = 0 := by omega
    have hot : Int.tmod (n : Int) 64 = 0 := by rw [Int.tmod_eq_emod_of_nonneg (by omega)]; exact hoi
    clear h hl hlt hn h0
    go_enter Try.func40, Try.ntmps40
    go_wp2_with fail
    go_quiet (fail)
    go_wp2_with fail
    go_ret
    exact ⟨ret_bool (by rw [HR.out]), _, rfl⟩
  · obtain ⟨g, c, rfl, hc1, hc2⟩ := h.here (by omega)
    obtain ⟨q, hq⟩ : ∃ q, q = n / 64 := ⟨_, rfl⟩
    obtain ⟨o, ho⟩ : ∃ o, o = n % 64 := ⟨_, rfl⟩
    have hql : q < W.length := by omega
    have k2 := h.word hql
    have hzl := wget_lt hlt q
    obtain ⟨z, hz⟩ : ∃ z, z = W.getD q 0 := ⟨_, rfl⟩
    rw [← hz] at k2 hzl
    obtain ⟨y, hy⟩ : ∃ y, y = z / 2 ^ o := ⟨_, rfl⟩
    have f1 : (z : Int) / 2 ^ o = (y : Int) := by rw [hy]; simp
    have HR : Hid (hmB n W = decide (y ≠ 0)) := hid (by unfold hmB; rw [← hq, ← ho, ← hz, ← hy, decide_eq_decide]; exact ⟨fun hh => hh.2, fun hh => ⟨by omega, hh⟩⟩)
    obtain ⟨nw, hnw⟩ : ∃ nw, nw = W.length := ⟨_, rfl⟩
    rw [← hnw] at k1 hc1 hql
    have hqi : (n : Int) / 64 = (q : Int) := by omega
    have hqt : Int.tdiv (n : Int) 64 = (q : Int) := by rw [Int.tdiv_eq_ediv_of_nonneg (by omega)]; exact hqi
    have hoi : (n : Int) % 64 = (o : Int) := by omega
    have hot : Int.tmod (n : Int) 64 = (o : Int) := by rw [Int.tmod_eq_emod_of_nonneg (by omega)]; exact hoi
    have hob : (o : Int) < 64 := by omega
    have ho0 : (0 : Int) < (o : Int) := by omega
    have hod : decide (0 < o) = true := by simp; omega
    have hqn : (q : Int) < (nw : Int) := by omega
    have hqb : (nw : Int) ≤ 1024 := by omega
    have hyc : ((y : Int) = 0) = (y = 0) := by rw [eq_iff_iff]; omega
    clear h hn hl hc1 hc2 hq ho hql hzl hz hy hnw h0 hlt
    go_enter Try.func40, Try.ntmps40
    go_wp2_with fail
    go_quiet (fail)
    go_wp2_with fail
    go_ret
    exact ⟨ret_bool (by rw [HR.out]; cases y <;> simp; omega), _, rfl⟩
set_option maxRecDepth 20000 in
theorem rPut_any (x : World) (b n i d k all : Nat) (v vb vw : Value) (W D E : List Nat) (h : RwR x b n v W d k vb vw D E all) (hl : W.length = (n + 63) / 64) (hlt : ∀ y ∈ W, y < 18446744073709551616) (hn : n ≤ 65536) (hi : i < n) :
    Calls Try.prog 29 #[.pointer (some ⟨b, 0, none⟩), .int .i64 (i : Int)] x fun e w' => e = .returned (.tuple #[]) ∧ RwR w' b n v (W.set (i / 64) (W.getD (i / 64) 0 ||| 2 ^ (i % 64))) d k vb vw D E all ∧ Mv (fun j => v.ownBlock = some j) x w' := by
  obtain ⟨g, c, rfl, hc1, hc2⟩ := h.here (by omega)
  obtain ⟨q, hq⟩ : ∃ q, q = i / 64 := ⟨_, rfl⟩
  obtain ⟨o, ho⟩ : ∃ o, o = i % 64 := ⟨_, rfl⟩
  have hql : q < W.length := by omega
  have k1 := h.c1
  have k2 := h.word hql
  have kf := h.wfz rfl q
  have hzl := wget_lt hlt q
  rw [← hq, ← ho]
  obtain ⟨z, hz⟩ : ∃ z, z = W.getD q 0 := ⟨_, rfl⟩
  rw [← hz] at k2 hzl ⊢
  obtain ⟨p, hp⟩ : ∃ p, p = 2 ^ o := ⟨_, rfl⟩
  have hpl : p < 18446744073709551616 := by rw [hp, ho]; exact pow_lt64 i
  rw [← hp]
  obtain ⟨y, hy⟩ : ∃ y, y = z ||| p := ⟨_, rfl⟩
  rw [← hy]
  have f1 : (2 : Int) ^ o = (p : Int) := by rw [hp]; simp
  have f2 : IntKind.u64.wrap (p : Int) = (p : Int) := wrap_nat hpl
  have f3 : bits .or .u64 (z : Int) (p : Int) = (y : Int) := by rw [u64_or_nat z p hzl hpl, hy]
  have HRES : Hid (RwR (x.drew.setCell ⟨g, q, none⟩ (.int .u64 (y : Int))) b n (.slice (some ⟨g, 0, none⟩) W.length c) (W.set q y) d k vb vw D E all ∧ Mv (fun j => (Value.slice (some ⟨g, 0, none⟩) W.length c).ownBlock = some j) x (x.drew.setCell ⟨g, q, none⟩ (.int .u64 (y : Int)))) := hid (by
    have hb : Below x.heap.size x x.drew := (Below.refl _ _).drew
    exact ⟨(h.below hb).put rfl q y, mv_setCell (Mv.of_below hb : Mv (fun j => (Value.slice (some ⟨g, 0, none⟩) W.length c).ownBlock = some j) x x.drew) rfl _⟩)
  obtain ⟨nw, hnw⟩ : ∃ nw, nw = W.length := ⟨_, rfl⟩
  rw [← hnw] at k1 hc1 hql HRES ⊢
  have hqi : (i : Int) / 64 = (q : Int) := by omega
  have hqt : Int.tdiv (i : Int) 64 = (q : Int) := by rw [Int.tdiv_eq_ediv_of_nonneg (by omega)]; exact hqi
  have hoi : (i : Int) % 64 = (o : Int) := by omega
  have hot : Int.tmod (i : Int) 64 = (o : Int) := by rw [Int.tmod_eq_emod_of_nonneg (by omega)]; exact hoi
  have hob : (o : Int) < 64 := by omega
  have hqn : (q : Int) < (nw : Int) := by omega
  have hqb : (nw : Int) ≤ 1024 := by omega
  have hqw : IntKind.i64.wrap (q : Int) = (q : Int) := by rw [IntKind.wrap_i64]; omega
  clear h hn hi hl hc1 hc2 hq ho hql hzl hz hp hpl hy hnw hlt
  go_enter Try.func29, Try.ntmps29
  go_wp2_with fail
  go_still_tail 13, mixedP
  repeat still_step
  change wpList _ _ _ _ _ x.drew
  have k2' : x.drew.cell? ⟨g, q, none⟩ = some (.int .u64 (z : Int)) := k2
  have kf' : x.drew.frozen? ⟨g, q, none⟩ = false := kf
  clear k1 k2 kf
  generalize x.drew = z1 at *
  go_wp2_with fail
  exact bodyPost_end (results_none rfl _ _ _) rfl ⟨rfl, HRES.out⟩
/-- A row of zeros. -/
theorem rZeros_any (x : World) (n : Nat) (hn : n ≤ 65536) :
    Calls Try.prog 28 #[.int .i64 (n : Int)] x fun e w' => ∃ b g c, e = .returned (.pointer (some ⟨b, 0, none⟩)) ∧ x.heap.size ≤ b ∧ x.heap.size ≤ g ∧ RwR w' b n (.slice (some ⟨g, 0, none⟩) ((n + 63) / 64) c) (List.replicate ((n + 63) / 64) 0) 0 0 (.slice none 0 0) (.slice none 0 0) [] [] 0 ∧ Below x.heap.size x w' := by
  have HP := hid (rParts64_any n x (by omega))
  obtain ⟨nw, hnw⟩ : ∃ nw, nw = (n + 63) / 64 := ⟨_, rfl⟩
  rw [← hnw] at HP ⊢
  have hnb : (nw : Int) ≤ 1024 := by omega
  have HMK : ∀ z : World, (Instr.makeSlice 61 (.int .i64 (nw : Int)) (.int .i64 (nw : Int))).run Try.prog z = .ok (.slice (some ⟨z.heap.size, 0, none⟩) nw nw) (z.alloc (.cells (madeCells #[.int .u64 0] nw) 47)) := fun z =>
    run_make_row' 61 47 (.int .u64 0) 8 Try.underlying61 infoU64 rfl .i64 .i64 nw (by omega) (by omega) z
  have HZ : Hid ((x.alloc (.cells (madeCells #[.int .u64 0] nw) 47)).ownsRow 0 47 1 (.slice (some ⟨x.heap.size, 0, none⟩) nw nw) nw (wvals (List.replicate nw 0))) := hid
    ⟨by simp [wvals], .inr ⟨x.heap.size, nw, _, rfl, Nat.zero_le _, heap_alloc_new x _, Nat.le_refl _, by unfold maxLen; omega, by simp [madeCells], by
      rw [Nat.mul_one, ← madeU64 nw]
      apply List.take_of_length_le
      simp [madeCells]⟩⟩
  obtain ⟨cs, hcs⟩ : ∃ cs, cs = madeCells #[.int .u64 0] nw := ⟨_, rfl⟩
  rw [← hcs] at HZ
  rw [← hcs] at HMK
  clear hnw hn hcs
  go_enter Try.func28, Try.ntmps28
  go_wp2_with fail
  refine HP.out.mono ?_
  rintro e w1 ⟨rfl, rfl⟩
  go_wp2_with fail
  go_ret
  exact ⟨x.heap.size + 1, x.heap.size, nw, rfl, by omega, Nat.le_refl _, ⟨heap_alloc2_new x _ _, by
    rw [List.length_replicate]
    exact owns_mv (F := fun _ => False) HZ.out (Mv.of_below ((Below.refl _ _).alloc (Nat.le_refl _) _)) fun _ _ => id, World.ownsRow_nil _ _ _ _, World.ownsRow_nil _ _ _ _, .inl rfl⟩, ((Below.refl _ _).alloc (Nat.le_refl _) _).alloc (by simp) _⟩
end Go.Proofs.Ytjcapiibeekfkaa
namespace Go.Inc
open Go.RowKit
/-- Words of which the first bytes are laid. -/
structure LyW (V : List Nat) (nw t : Nat) (bs : List Nat) : Prop where
  len : V.length = nw
  lt : ∀ y ∈ V, y < 18446744073709551616
  bit : ∀ k, (V.getD (k / 64) 0).testBit (k % 64) = (decide (k < 8 * t) && (bs.getD (k / 8) 0).testBit (k % 8))
theorem LyW.zeros (nw : Nat) (bs : List Nat) : LyW (List.replicate nw 0) nw 0 bs := by
  refine ⟨List.length_replicate, fun y hy => ?_, fun k => ?_⟩
  · rw [(List.mem_replicate.1 hy).2]; decide
  · have : (List.replicate nw 0).getD (k / 64) 0 = 0 := by
      rw [List.getD_eq_getElem?_getD, List.getElem?_replicate]; split <;> rfl
    rw [this, Nat.zero_testBit, decide_eq_false (by omega), Bool.false_and]
theorem lay_lt {c o : Nat} (hc : c < 256) (ho : o ≤ 56) : c * 2 ^ o < 18446744073709551616 := by
  have : 2 ^ o ≤ 2 ^ 56 := Nat.pow_le_pow_right (by decide) ho
  calc c * 2 ^ o ≤ 255 * 2 ^ 56 := Nat.mul_le_mul (by omega) this
    _ < 18446744073709551616 := by decide
theorem LyW.step {V : List Nat} {nw t : Nat} {bs : List Nat} (h : LyW V nw t bs) (hby : Bytes bs) (hq : t / 8 < nw) : LyW (V.set (t / 8) (V.getD (t / 8) 0 ||| bs.getD t 0 * 2 ^ (8 * (t % 8)))) nw (t + 1) bs := by
  have hc := hby.getD t
  refine ⟨by rw [List.length_set, h.len], fun y hy => ?_, fun k => ?_⟩
  · rcases List.mem_or_eq_of_mem_set hy with h1 | rfl
    · exact h.lt y h1
    · exact Nat.or_lt_two_pow (n := 64) (wget_lt h.lt _) (lay_lt hc (by omega))
  · rw [List.getD_eq_getElem?_getD, List.getElem?_set]
    have hb := h.bit k
    by_cases hk : t / 8 = k / 64
    · rw [if_pos hk, if_pos (by rw [h.len]; exact hq)]
      show (V.getD (t / 8) 0 ||| bs.getD t 0 * 2 ^ (8 * (t % 8))).testBit (k % 64) = _
      rw [Nat.testBit_or, hk, hb, Nat.mul_comm (bs.getD t 0), Nat.testBit_two_pow_mul]
      by_cases h1 : k < 8 * t
      · rw [decide_eq_true h1, decide_eq_true (show k < 8 * (t + 1) from by omega), decide_eq_false (by omega), Bool.false_and, Bool.or_false]
      · rw [decide_eq_false h1, Bool.false_and, Bool.false_or, decide_eq_true (by omega), Bool.true_and]
        by_cases h2 : k < 8 * (t + 1)
        · rw [decide_eq_true h2, Bool.true_and, show k / 8 = t from by omega, show k % 64 - 8 * (t % 8) = k % 8 from by omega]
        · rw [decide_eq_false h2, Bool.false_and]
          refine Nat.testBit_lt_two_pow (Nat.lt_of_lt_of_le hc ?_)
          rw [show (256 : Nat) = 2 ^ 8 from rfl]
          exact Nat.pow_le_pow_right (by decide) (by omega)
    · rw [if_neg hk, ← List.getD_eq_getElem?_getD, hb]
      congr 1
      rw [decide_eq_decide]
      omega
end Go.Inc
namespace Go.Proofs.Ytjcapiibeekfkaa
open Go.RowKit Go.Inc
set_option maxRecDepth 20000 in
set_option maxHeartbeats 1000000 in
theorem rLay_any (ok : Nat → Prop) (x : World) (b n d k all : Nat) (v vb vw : Value) (D E : List Nat) (a : Option Addr) (c : Nat) (bs : List Nat) (h : RwR x b n v (List.replicate ((n + 63) / 64) 0) d k vb vw D E all) (hn : n ≤ 65536) (hs : Sl ok x a bs) (hok : ∀ i, ok i → v.ownBlock ≠ some i) (hby : Bytes bs) (hbl : bs.length = (n + 7) / 8) :
    Calls Try.prog 39 #[.pointer (some ⟨b, 0, none⟩), .slice a bs.length c] x fun e w' => e = .returned (.tuple #[]) ∧ (∃ V, RwR w' b n v V d k vb vw D E all ∧ LyW V ((n + 63) / 64) bs.length bs) ∧ Mv (fun j => v.ownBlock = some j) x w' := by
  have HS := hid hs
  have HOK := hid hok
  have HBY := hid hby
  obtain ⟨L, hL⟩ : ∃ L, L = bs.length := ⟨_, rfl⟩
  obtain ⟨nw, hnw⟩ : ∃ nw, nw = (n + 63) / 64 := ⟨_, rfl⟩
  have HLB := hid hL
  have hLn : L ≤ 8 * nw := by omega
  have hnb : (nw : Int) ≤ 1024 := by omega
  have hLb : (L : Int) ≤ 8192 := by omega
  have HX := hid h
  rw [← hnw] at HX ⊢
  rw [← hL]
  clear h hs hok hby hbl hL hn hnw
  go_enter Try.func39, Try.ntmps39
  go_wp2_with fail
  go_loopw [8] (fun i wr => ∃ t : Nat, t ≤ L ∧ i = .int .i64 (t : Int) ∧ (∃ V, RwR wr b n v V d k vb vw D E all ∧ LyW V nw t bs) ∧ Mv (fun j => v.ownBlock = some j) x wr) (fun i _ => L - (intOf i).toNat)
  case atStart => exact ⟨0, Nat.zero_le _, rfl, ⟨_, HX.out, LyW.zeros nw bs⟩, Mv.refl _ _⟩
  case round =>
    obtain ⟨t, ht, rfl, ⟨V, hr, hv⟩, hm⟩ := hrel
    by_cases hlt : (t : Int) < L
    · have hst := hv.step HBY.out (by omega)
      have hvl := hv.len
      obtain ⟨g, cw, rfl, hc1, hc2⟩ := hr.here (by omega)
      rw [hvl] at hr hc1 hm HOK ⊢
      obtain ⟨b', o', rfl, hcb⟩ : ∃ b' o', a = some ⟨b', o', none⟩ ∧ wr.cell? ⟨b', o' + t, none⟩ = some (.int .u8 ((bs.getD t 0 : Nat) : Int)) := by
        rcases HS.out.mv hm HOK.out with h1 | ⟨b', o', h1, _, hc⟩
        · have := HLB.out; rw [h1] at this; simp at this; omega
        · exact ⟨b', o', h1, hc t (by have := HLB.out; omega)⟩
      obtain ⟨q, hq⟩ : ∃ q, q = t / 8 := ⟨_, rfl⟩
      obtain ⟨r, hrr⟩ : ∃ r, r = t % 8 := ⟨_, rfl⟩
      obtain ⟨o, ho⟩ : ∃ o, o = 8 * r := ⟨_, rfl⟩
      have hql : q < V.length := by omega
      have k1 := hr.c1
      have k2 := hr.word hql
      have kf := hr.wfz hvl.symm q
      have hzl := wget_lt hv.lt q
      have hcl := HBY.out.getD t
      rw [← hq, ← hrr, ← ho] at hst
      obtain ⟨z, hz⟩ : ∃ z, z = V.getD q 0 := ⟨_, rfl⟩
      obtain ⟨u, hu⟩ : ∃ u, u = bs.getD t 0 := ⟨_, rfl⟩
      rw [← hz] at k2 hzl hst
      rw [← hu] at hcl hst hcb
      obtain ⟨p, hp⟩ : ∃ p, p = u * 2 ^ o := ⟨_, rfl⟩
      have hpl : p < 18446744073709551616 := by rw [hp]; exact lay_lt hcl (by omega)
      rw [← hp] at hst
      obtain ⟨y, hy⟩ : ∃ y, y = z ||| p := ⟨_, rfl⟩
      rw [← hy] at hst
      have f1 : (u : Int) * 2 ^ o = (p : Int) := by rw [hp]; simp
      have f2 : IntKind.u64.wrap (p : Int) = (p : Int) := wrap_nat hpl
      have f3 : bits .or .u64 (z : Int) (p : Int) = (y : Int) := by rw [u64_or_nat z p hzl hpl, hy]
      have f4 : IntKind.u64.wrap (u : Int) = (u : Int) := wrap_nat (by omega)
      have HRES : Hid (RwR (wr.drew.setCell ⟨g, q, none⟩ (.int .u64 (y : Int))) b n (.slice (some ⟨g, 0, none⟩) nw cw) (V.set q y) d k vb vw D E all ∧ Mv (fun j => (Value.slice (some ⟨g, 0, none⟩) nw cw).ownBlock = some j) x (wr.drew.setCell ⟨g, q, none⟩ (.int .u64 (y : Int)))) := hid (by
        have hb : Below wr.heap.size wr wr.drew := (Below.refl _ _).drew
        exact ⟨(hr.below hb).put hvl.symm q y, mv_setCell (hm.trans (Mv.of_below hb) : Mv (fun j => (Value.slice (some ⟨g, 0, none⟩) nw cw).ownBlock = some j) x wr.drew) rfl _⟩)
      have HST := hid hst
      have hqi : (t : Int) / 8 = (q : Int) := by omega
      have hqt : Int.tdiv (t : Int) 8 = (q : Int) := by rw [Int.tdiv_eq_ediv_of_nonneg (by omega)]; exact hqi
      have hoi : (t : Int) % 8 = (r : Int) := by omega
      have hot : Int.tmod (t : Int) 8 = (r : Int) := by rw [Int.tmod_eq_emod_of_nonneg (by omega)]; exact hoi
      have hor : (8 : Int) * (r : Int) = (o : Int) := by omega
      have hob : (o : Int) < 64 := by omega
      have how : IntKind.i64.wrap (o : Int) = (o : Int) := by rw [IntKind.wrap_i64]; omega
      have hqn : (q : Int) < (nw : Int) := by omega
      have hqw : IntKind.i64.wrap (q : Int) = (q : Int) := by rw [IntKind.wrap_i64]; omega
      have htl : (t < L) = True := eq_true (by omega)
      clear hr hv hm hc1 hc2 hq hrr ho hql hzl hz hu hp hpl hy hst hvl hcl
      go_wp2_with fail
      go_still_tail 16, mixedP
      repeat still_step
      change wpList _ _ _ _ _ wr.drew
      have k2' : wr.drew.cell? ⟨g, q, none⟩ = some (.int .u64 (z : Int)) := k2
      have kf' : wr.drew.frozen? ⟨g, q, none⟩ = false := kf
      clear k1 k2 kf hcb
      generalize wr.drew = z1 at *
      go_wp2_with fail
      go_roundw
      case rel => exact ⟨t + 1, by omega, by go_num, ⟨_, HRES.out.1, HST.out⟩, HRES.out.2⟩
      case measure => simp [intOf]; omega
    · have htl : (t < L) = False := eq_false (by omega)
      have HT : Hid (t = L) := hid (by omega)
      have HV := hid hv
      have HR := hid hr
      have HM := hid hm
      clear hlt hv hr hm
      go_wp2_with fail
      exact bodyPost_end (results_none rfl _ _ _) rfl ⟨rfl, ⟨V, HR.out, by have := HV.out; rw [HT.out] at this; exact this⟩, HM.out⟩
end Go.Proofs.Ytjcapiibeekfkaa
